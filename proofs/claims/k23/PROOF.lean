
import PyProof.Rows.All
import Wide.All
import OpenK.AllK
import OpenK.ZGo
import Wide.FinOn
import Open.Tops
import Lean
import PyProof.EqAt
import PyProof.EqKinds
import PyProof.TupleCall
import PyProof.NeKinds
import PySem.Challenge.RW_latewrite_k23_outcomes_of_tales
set_option Elab.async false
set_option linter.all false
set_option genInjectivity false
set_option genSizeOf false
set_option maxRecDepth 100000
universe u0 u1 u2 u3 u4 u5
inductive Ex_1_1 {t0:Sort u0} (P0:t0→Prop):Prop
 | mk (x0:t0) (h0:P0 x0):Ex_1_1 P0
inductive Ex_1_2 {t0:Sort u0} (P0 P1:t0→Prop):Prop
 | mk (x0:t0) (h0:P0 x0) (h1:P1 x0):Ex_1_2 P0 P1
inductive Ex_1_3 {t0:Sort u0} (P0 P1 P2:t0→Prop):Prop
 | mk (x0:t0) (h0:P0 x0) (h1:P1 x0) (h2:P2 x0):Ex_1_3 P0 P1 P2
inductive Ex_1_4 {t0:Sort u0} (P0 P1 P2 P3:t0→Prop):Prop
 | mk (x0:t0) (h0:P0 x0) (h1:P1 x0) (h2:P2 x0) (h3:P3 x0):Ex_1_4 P0 P1 P2 P3
inductive Ex_2_1 {t0:Sort u0} {t1:Sort u1} (P0:t0→t1→Prop):Prop
 | mk (x0:t0) (x1:t1) (h0:P0 x0 x1):Ex_2_1 P0
inductive Ex_2_2 {t0:Sort u0} {t1:Sort u1} (P0 P1:t0→t1→Prop):Prop
 | mk (x0:t0) (x1:t1) (h0:P0 x0 x1) (h1:P1 x0 x1):Ex_2_2 P0 P1
inductive Ex_2_3 {t0:Sort u0} {t1:Sort u1} (P0 P1 P2:t0→t1→Prop):Prop
 | mk (x0:t0) (x1:t1) (h0:P0 x0 x1) (h1:P1 x0 x1) (h2:P2 x0 x1):Ex_2_3 P0 P1 P2
inductive Ex_2_4 {t0:Sort u0} {t1:Sort u1} (P0 P1 P2 P3:t0→t1→Prop):Prop
 | mk (x0:t0) (x1:t1) (h0:P0 x0 x1) (h1:P1 x0 x1) (h2:P2 x0 x1) (h3:P3 x0 x1):Ex_2_4 P0 P1 P2 P3
inductive Ex_2_5 {t0:Sort u0} {t1:Sort u1} (P0 P1 P2 P3 P4:t0→t1→Prop):Prop
 | mk (x0:t0) (x1:t1) (h0:P0 x0 x1) (h1:P1 x0 x1) (h2:P2 x0 x1) (h3:P3 x0 x1) (h4:P4 x0 x1):Ex_2_5 P0 P1 P2 P3 P4
inductive Ex_2_6 {t0:Sort u0} {t1:Sort u1} (P0 P1 P2 P3 P4 P5:t0→t1→Prop):Prop
 | mk (x0:t0) (x1:t1) (h0:P0 x0 x1) (h1:P1 x0 x1) (h2:P2 x0 x1) (h3:P3 x0 x1) (h4:P4 x0 x1) (h5:P5 x0 x1):Ex_2_6 P0 P1 P2 P3 P4 P5
inductive Ex_2_8 {t0:Sort u0} {t1:Sort u1} (P0 P1 P2 P3 P4 P5 P6 P7:t0→t1→Prop):Prop
 | mk (x0:t0) (x1:t1) (h0:P0 x0 x1) (h1:P1 x0 x1) (h2:P2 x0 x1) (h3:P3 x0 x1) (h4:P4 x0 x1) (h5:P5 x0 x1) (h6:P6 x0 x1) (h7:P7 x0 x1):Ex_2_8 P0 P1 P2 P3 P4 P5 P6 P7
inductive Ex_3_1 {t0:Sort u0} {t1:Sort u1} {t2:Sort u2} (P0:t0→t1→t2→Prop):Prop
 | mk (x0:t0) (x1:t1) (x2:t2) (h0:P0 x0 x1 x2):Ex_3_1 P0
inductive Ex_3_3 {t0:Sort u0} {t1:Sort u1} {t2:Sort u2} (P0 P1 P2:t0→t1→t2→Prop):Prop
 | mk (x0:t0) (x1:t1) (x2:t2) (h0:P0 x0 x1 x2) (h1:P1 x0 x1 x2) (h2:P2 x0 x1 x2):Ex_3_3 P0 P1 P2
inductive Ex_3_4 {t0:Sort u0} {t1:Sort u1} {t2:Sort u2} (P0 P1 P2 P3:t0→t1→t2→Prop):Prop
 | mk (x0:t0) (x1:t1) (x2:t2) (h0:P0 x0 x1 x2) (h1:P1 x0 x1 x2) (h2:P2 x0 x1 x2) (h3:P3 x0 x1 x2):Ex_3_4 P0 P1 P2 P3
inductive Ex_3_5 {t0:Sort u0} {t1:Sort u1} {t2:Sort u2} (P0 P1 P2 P3 P4:t0→t1→t2→Prop):Prop
 | mk (x0:t0) (x1:t1) (x2:t2) (h0:P0 x0 x1 x2) (h1:P1 x0 x1 x2) (h2:P2 x0 x1 x2) (h3:P3 x0 x1 x2) (h4:P4 x0 x1 x2):Ex_3_5 P0 P1 P2 P3 P4
inductive Ex_3_6 {t0:Sort u0} {t1:Sort u1} {t2:Sort u2} (P0 P1 P2 P3 P4 P5:t0→t1→t2→Prop):Prop
 | mk (x0:t0) (x1:t1) (x2:t2) (h0:P0 x0 x1 x2) (h1:P1 x0 x1 x2) (h2:P2 x0 x1 x2) (h3:P3 x0 x1 x2) (h4:P4 x0 x1 x2) (h5:P5 x0 x1 x2):Ex_3_6 P0 P1 P2 P3 P4 P5
inductive Ex_4_4 {t0:Sort u0} {t1:Sort u1} {t2:Sort u2} {t3:Sort u3} (P0 P1 P2 P3:t0→t1→t2→t3→Prop):Prop
 | mk (x0:t0) (x1:t1) (x2:t2) (x3:t3) (h0:P0 x0 x1 x2 x3) (h1:P1 x0 x1 x2 x3) (h2:P2 x0 x1 x2 x3) (h3:P3 x0 x1 x2 x3):Ex_4_4 P0 P1 P2 P3
inductive Ex_4_5 {t0:Sort u0} {t1:Sort u1} {t2:Sort u2} {t3:Sort u3} (P0 P1 P2 P3 P4:t0→t1→t2→t3→Prop):Prop
 | mk (x0:t0) (x1:t1) (x2:t2) (x3:t3) (h0:P0 x0 x1 x2 x3) (h1:P1 x0 x1 x2 x3) (h2:P2 x0 x1 x2 x3) (h3:P3 x0 x1 x2 x3) (h4:P4 x0 x1 x2 x3):Ex_4_5 P0 P1 P2 P3 P4
inductive Ex_4_6 {t0:Sort u0} {t1:Sort u1} {t2:Sort u2} {t3:Sort u3} (P0 P1 P2 P3 P4 P5:t0→t1→t2→t3→Prop):Prop
 | mk (x0:t0) (x1:t1) (x2:t2) (x3:t3) (h0:P0 x0 x1 x2 x3) (h1:P1 x0 x1 x2 x3) (h2:P2 x0 x1 x2 x3) (h3:P3 x0 x1 x2 x3) (h4:P4 x0 x1 x2 x3) (h5:P5 x0 x1 x2 x3):Ex_4_6 P0 P1 P2 P3 P4 P5
inductive Ex_5_6 {t0:Sort u0} {t1:Sort u1} {t2:Sort u2} {t3:Sort u3} {t4:Sort u4} (P0 P1 P2 P3 P4 P5:t0→t1→t2→t3→t4→Prop):Prop
 | mk (x0:t0) (x1:t1) (x2:t2) (x3:t3) (x4:t4) (h0:P0 x0 x1 x2 x3 x4) (h1:P1 x0 x1 x2 x3 x4) (h2:P2 x0 x1 x2 x3 x4) (h3:P3 x0 x1 x2 x3 x4) (h4:P4 x0 x1 x2 x3 x4) (h5:P5 x0 x1 x2 x3 x4):Ex_5_6 P0 P1 P2 P3 P4 P5
inductive Ex_6_5 {t0:Sort u0} {t1:Sort u1} {t2:Sort u2} {t3:Sort u3} {t4:Sort u4} {t5:Sort u5} (P0 P1 P2 P3 P4:t0→t1→t2→t3→t4→t5→Prop):Prop
 | mk (x0:t0) (x1:t1) (x2:t2) (x3:t3) (x4:t4) (x5:t5) (h0:P0 x0 x1 x2 x3 x4 x5) (h1:P1 x0 x1 x2 x3 x4 x5) (h2:P2 x0 x1 x2 x3 x4 x5) (h3:P3 x0 x1 x2 x3 x4 x5) (h4:P4 x0 x1 x2 x3 x4 x5):Ex_6_5 P0 P1 P2 P3 P4
namespace L2
open PySem PySem.Spec PyProof.Rows
noncomputable abbrev Key:=Sum Int Str
noncomputable def keyIs:Key→Value→Bool
 | .inl k,v=>Value.isInt k v
 | .inr x,v=>Value.isStrOf x v
noncomputable def keyH (w:World):Key→Int
 | .inl k=>hashInt k
 | .inr x=>hashStr w x
theorem keyIs_shape:∀ {k:Key} {v:Value},keyIs k v=true→(Ex_2_2 (fun i t=>k=Sum.inl i) (fun i t=>v=Value.int i t))∨(Ex_2_2 (fun x t=>k=Sum.inr x) (fun x t=>v=Value.str x t))
 | .inl i,v,h=>by
  obtain ⟨t,e⟩:=Value.isInt_shape (k:=i) (v:=v) h
  exact .inl ⟨i,t,rfl,e⟩
 | .inr x,v,h=>by
  obtain ⟨t,e⟩:=Value.isStrOf_shape (x:=x) (v:=v) h
  exact .inr ⟨x,t,rfl,e⟩
theorem keyIs_int (i:Int) (t:Tok):keyIs (.inl i) (.int i t)=true:=by simp [keyIs,Value.isInt]
theorem keyIs_str (x:Str) (t:Tok):keyIs (.inr x) (.str x t)=true:=by simp [keyIs,Value.isStrOf]
theorem key_ll (a b:Int):decide ((Sum.inl a:Key)=Sum.inl b)=(a == b):=by
 by_cases e:a=b
 ·subst e; simp
 ·have h:¬ (Sum.inl a:Key)=Sum.inl b:=fun q=>e (Sum.inl.inj q)
  rw [decide_eq_false h]
  exact (beq_eq_false_iff_ne.mpr e).symm
theorem key_rr (a b:Str):decide ((Sum.inr a:Key)=Sum.inr b)=decide (a=b):=by
 by_cases e:a=b
 ·subst e; simp
 ·have h:¬ (Sum.inr a:Key)=Sum.inr b:=fun q=>e (Sum.inr.inj q)
  rw [decide_eq_false h,decide_eq_false e]
theorem key_lr (a:Int) (b:Str):decide ((Sum.inl a:Key)=Sum.inr b)=false:=decide_eq_false (fun q=>nomatch q)
theorem key_rl (a:Str) (b:Int):decide ((Sum.inr a:Key)=Sum.inl b)=false:=decide_eq_false (fun q=>nomatch q)
noncomputable def mixKind (prog:Program) (w:World):PySem.KeyKind prog w Key where
 is:=keyIs
 hash:=keyH w
 inj:=fun v a b ha hb=>by
  rcases keyIs_shape ha with ⟨i,t,rfl,rfl⟩ | ⟨x,t,rfl,rfl⟩
  ·rcases keyIs_shape hb with ⟨j,u,rfl,e⟩ | ⟨y,u,rfl,e⟩
   ·injection e with e1 _; rw [e1]
   ·exact nomatch e
  ·rcases keyIs_shape hb with ⟨j,u,rfl,e⟩ | ⟨y,u,rfl,e⟩
   ·exact nomatch e
   ·injection e with e1 _; rw [e1]
 byValue:=fun k v h=>by
  rcases keyIs_shape h with ⟨i,t,rfl,rfl⟩ | ⟨x,t,rfl,rfl⟩ <;> rfl
 pyHash:=fun hv h=>by
  rcases keyIs_shape hv with ⟨i,t,rfl,rfl⟩ | ⟨x,t,rfl,rfl⟩
  ·exact wpAny_pyHash_int h
  ·exact wpAny_pyHash_str h
 eqBool:=fun hu hv h=>by
  rcases keyIs_shape hu with ⟨i,t,rfl,rfl⟩ | ⟨x,t,rfl,rfl⟩
  ·rcases keyIs_shape hv with ⟨j,u,rfl,rfl⟩ | ⟨y,u,rfl,rfl⟩
   ·rw [key_ll] at h; exact wpAny_eqBool_int h
   ·rw [key_lr] at h; exact SeqAt.EqAt.int_str i t y u _ _ _ _ h
  ·rcases keyIs_shape hv with ⟨j,u,rfl,rfl⟩ | ⟨y,u,rfl,rfl⟩
   ·rw [key_rl] at h; exact SeqAt.EqAt.str_int x t j u _ _ _ _ h
   ·rw [key_rr] at h; exact wpAny_eqBool_str h
 «strs»:=fun k x t v h=>by
  rcases keyIs_shape h with ⟨i,u,rfl,e⟩ | ⟨y,u,rfl,e⟩
  ·exact nomatch e
  ·injection e with e1 _
   subst e1
   cases v <;> rfl
theorem mixKind_is (prog:Program) (w:World) (k:Key) (v:Value):(mixKind prog w).is k v=keyIs k v:=rfl
theorem mixKind_int (prog:Program) (w:World) (i:Int) (t:Tok):(mixKind prog w).is (.inl i) (.int i t)=true:=keyIs_int i t
theorem mixKind_str (prog:Program) (w:World) (x:Str) (t:Tok):(mixKind prog w).is (.inr x) (.str x t)=true:=keyIs_str x t
end L2
namespace L2
open PySem PySem.Spec PyProof.Rows
set_option genInjectivity true in
inductive V where
 | non | bl (b:Bool) | int (i:Int) | str (x:Str) | byt (b:Array UInt8) | flt (b:UInt64) | ref (a:Addr) | ty (n:String)
 deriving DecidableEq
noncomputable def RelV:V→Value→Prop
 | .non,u=>u=Value.none
 | .bl b,u=>u=Value.bool b
 | .int i,u=>∃ t,u=Value.int i t
 | .str x,u=>∃ t,u=Value.str x t
 | .byt b,u=>∃ t,u=Value.bytes b t
 | .flt b,u=>∃ t,u=Value.float b t
 | .ref a,u=>u=Value.ref a
 | .ty n,u=>u=Value.type n
noncomputable abbrev Vals:List V→List Value→Prop:=Paired RelV
theorem Vals.length {xs:List V} {us:List Value} (r:Vals xs us):xs.length=us.length:=Paired.length r
theorem Vals.get:∀ {xs:List V} {us:List Value} {i:Nat} {x:V},Vals xs us→xs[i]?=some x→∃ u,us[i]?=some u∧RelV x u
 | _,_,_,_,.nil,e=>by simp at e
 | _,_,0,_,.cons r _,e=>by simp at e; subst e; exact ⟨_,rfl,r⟩
 | _,_,i + 1,x,.cons _ t,e=>by
  obtain ⟨u,h1,h2⟩:=Vals.get (i:=i) (x:=x) t (by simpa using e)
  exact ⟨u,by simpa using h1,h2⟩
theorem Vals.set {x:V} {u:Value} (r:RelV x u):∀ {xs:List V} {us:List Value} (i:Nat),Vals xs us→Vals (xs.set i x) (us.set i u)
 | _,_,_,.nil=>.nil
 | _,_,0,.cons _ t=>.cons r t
 | _,_,i + 1,.cons q t=>.cons q (Vals.set r i t)
theorem Vals.append {xs ys:List V} {us ws:List Value} (h:Vals xs us) (g:Vals ys ws):Vals (xs ++ ys) (us ++ ws):=by
 induction h with
 | nil=>exact g
 | cons r t ih=>exact .cons r ih
theorem Vals.take:∀ {xs:List V} {us:List Value} (n:Nat),Vals xs us→Vals (xs.take n) (us.take n)
 | _,_,0,_=>.nil
 | _,_,_ + 1,.nil=>.nil
 | _,_,n + 1,.cons r t=>.cons r (Vals.take n t)
theorem Vals.drop:∀ {xs:List V} {us:List Value} (n:Nat),Vals xs us→Vals (xs.drop n) (us.drop n)
 | _,_,0,r=>r
 | _,_,_ + 1,.nil=>.nil
 | _,_,n + 1,.cons _ t=>Vals.drop n t
noncomputable def RelO:Option V→Option Value→Prop
 | some v,some u=>RelV v u
 | none,none=>True
 | _,_=>False
noncomputable def KV {κ:Type}:List (κ×V)→List (κ×Value)→Prop:=Paired fun (p:κ×V) (q:κ×Value)=>p.1=q.1∧RelV p.2 q.2
noncomputable def kV:Key→V
 | .inl i=>.int i
 | .inr x=>.str x
inductive HO where
 | lst (xs:List V)
 | tup (xs:List V)
 | dK (kvs:List (Key×V)) | dT (kvs:List (List Key×V))
 | set (S:Int→Bool) (n:Nat)
 | ins (C dx:Addr) (fs:List (Str×V))
 | own (x:Addr)
 | xd (fs:List (Str×V))
 | met (f x:Addr)
 | rng (lo hi:Int)
 | frz (o:Obj) (u:HO)
 | tbl (ps:Array Value)
 | ext (φ:Heap→Prop)
noncomputable abbrev Hp:=Addr→Option HO
noncomputable def upd (H:Hp) (a:Addr) (o:HO):Hp:=fun b=>if b=a then some o else H b
theorem upd_same {H:Hp} {a:Addr} {o:HO}:upd H a o a=some o:=by unfold upd; rw [if_pos rfl]
theorem upd_ne {H:Hp} {a b:Addr} {o:HO} (h:b≠a):upd H a o b=H b:=by unfold upd; rw [if_neg h]
theorem upd_upd {H:Hp} {a:Addr} {o u:HO}:upd (upd H a o) a u=upd H a u:=by
 funext b; unfold upd; split <;> rfl
theorem ne_of {H:Hp} {a b:Addr} {o u:HO} (h:H a=some o) (h':H b=some u) (d:o≠u):a≠b:=by
 intro e; subst e; rw [h] at h'; exact d (Option.some.inj h')
theorem ne_of_none {H:Hp} {a b:Addr} {o:HO} (h:H a=some o) (h':H b=none):a≠b:=by
 intro e; subst e; rw [h] at h'; cases h'
section
variable (P:Program) (w:World)
noncomputable def ObjOk (H:Hp) (h:Heap) (a:Addr):HO→Prop
 | .lst xs=>xs.length≤sizeLine∧∃ (its:List Value) (n:Nat),Vals xs its∧h.get? a=some { cls:=.type "list",data:=.seq its.toArray n }
 | .tup xs=>xs.length≤sizeLine∧∃ its:List Value,Vals xs its∧IsTup h a its.toArray
 | .dK kvs=>kvs.length≤sizeLine∧(a == sysModules)=false∧∃ vs,KV kvs vs∧h.DictOf (mixKind P w) a vs
 | .dT kvs=>kvs.length≤sizeLine∧(a == sysModules)=false∧∃ xs:List (List Key×Addr×Value),
   Paired (fun (p:List Key×V) (q:List Key×Addr×Value)=>p.1=q.1∧H q.2.1=some (.tup (p.1.map kV))∧RelV p.2 q.2.2) kvs xs ∧
   ∃ o es ep,h.get? a=some o∧o.ExactDict∧o.data=.dict es ep∧es.toList=xs.map (entryOfKey (tupleKind (mixKind P w)))∧(xs.map (·.1)).Nodup
 | .set S n=>h.SetOf (intKind P w) a S n
 | .ins C dx fs=>H dx=some (.own a)∧fs.length≤1000∧dx≠a∧h.get? a=some (PySem.W.instObj C dx) ∧
   ∃ mA,h.Ns1 dx mA∧(∀ f,RelO (fs.lookup f) (mA f))∧PySem.Within mA (fs.map (·.1))
 | .own _=>∃ o,h.get? a=some o
 | .xd fs=>∃ mA,h.Ns1 a mA∧∀ f,RelO (fs.lookup f) (mA f)
 | .rng lo hi=>∃ t u v,h.get? a=some { cls:=.type "range",data:=.fields #[.int lo t,.int hi u,.int 1 v] }
 | .frz o u=>h.get? a=some o∧ObjOk H h a u
 | .tbl ps=>h.get? a=some { cls:=.none,data:=.fields ps }
 | .met f x=>h.get? a=some (PySem.W.methodObj (.ref f) (.ref x))
 | .ext φ=>φ h∧(∃ o,h.get? a=some o)∧∀ h1 h2:Heap,φ h1→(∀ o,h1.get? a=some o→h2.get? a=some o)→φ h2
noncomputable def HOk (H:Hp) (h:Heap):Prop:=∀ a o,H a=some o→ObjOk P w H h a o
end
section
variable {P:Program} {w:World} {H H':Hp} {h h':Heap} {a:Addr} {o:HO}
theorem ObjOk.lt (x:ObjOk P w H h a o):a < h.objs.size:=by
 cases o with
 | lst xs=>obtain ⟨_,_,_,_,e⟩:=x; exact Heap.lt_size e
 | tup xs=>obtain ⟨_,_,_,p⟩:=x; exact p.lt
 | dK kvs=>obtain ⟨_,_,_,_,o,_,_,e,_⟩:=x; exact Heap.lt_size e
 | dT kvs=>obtain ⟨_,_,_,_,o,_,_,e,_⟩:=x; exact Heap.lt_size e
 | set S n=>obtain ⟨o,_,_,_,e,_⟩:=x; exact Heap.lt_size e
 | ins C dx fs=>obtain ⟨_,_,_,e,_⟩:=x; exact Heap.lt_size e
 | own y=>obtain ⟨_,e⟩:=x; exact Heap.lt_size e
 | xd fs=>obtain ⟨_,⟨_,_,_,e,_⟩,_⟩:=x; exact Heap.lt_size e
 | rng lo hi=>obtain ⟨_,_,_,e⟩:=x; exact Heap.lt_size e
 | frz ob u=>obtain ⟨e,_⟩:=x; exact Heap.lt_size e
 | tbl ps=>exact Heap.lt_size (show h.get? a=some _ from x)
 | met f y=>exact Heap.lt_size (show h.get? a=some _ from x)
 | ext φ=>obtain ⟨_,⟨_,e⟩,_⟩:=x; exact Heap.lt_size e
theorem Paired.mapP {α β:Type} {F G:α→β→Prop} {l₁:List α} {l₂:List β} (h:Paired F l₁ l₂) (f:∀ a b,F a b→G a b):Paired G l₁ l₂:=by
 induction h with
 | nil=>exact .nil
 | cons r t ih=>exact .cons (f _ _ r) ih
theorem ObjOk.stay (x:ObjOk P w H h a o) (k:∀ b u,(b=a∨H b=some (.own a))→h.get? b=some u→h'.get? b=some u)
  (ho:∀ b,H b=some (.own a)→H' b=some (.own a)) (ht:∀ b xs,H b=some (.tup xs)→H' b=some (.tup xs)):ObjOk P w H' h' a o:=by
 induction o with
 | lst xs=>obtain ⟨z,its,n,r,e⟩:=x; exact ⟨z,its,n,r,k _ _ (.inl rfl) e⟩
 | tup xs=>obtain ⟨z,its,r,ob,e,c⟩:=x; exact ⟨z,its,r,ob,k _ _ (.inl rfl) e,c⟩
 | dK kvs=>obtain ⟨z,y,vs,r,ob,es,ep,e,c⟩:=x; exact ⟨z,y,vs,r,ob,es,ep,k _ _ (.inl rfl) e,c⟩
 | dT kvs =>
  obtain ⟨z,y,xs,r,ob,es,ep,e,c⟩:=x
  exact ⟨z,y,xs,Paired.mapP r fun p q z=>⟨z.1,ht _ _ z.2.1,z.2.2⟩,ob,es,ep,k _ _ (.inl rfl) e,c⟩
 | set S n=>obtain ⟨ob,es,ep,t,e,c⟩:=x; exact ⟨ob,es,ep,t,k _ _ (.inl rfl) e,c⟩
 | ins C dx fs =>
  obtain ⟨d,z,ne,e,mA,⟨od,es,ep,e2,c⟩,r⟩:=x
  exact ⟨ho _ d,z,ne,k _ _ (.inl rfl) e,mA,⟨od,es,ep,k _ _ (.inr d) e2,c⟩,r⟩
 | own y=>obtain ⟨ob,e⟩:=x; exact ⟨ob,k _ _ (.inl rfl) e⟩
 | xd fs=>obtain ⟨mA,⟨od,es,ep,e,c⟩,r⟩:=x; exact ⟨mA,⟨od,es,ep,k _ _ (.inl rfl) e,c⟩,r⟩
 | rng lo hi=>obtain ⟨t,u,v,e⟩:=x; exact ⟨t,u,v,k _ _ (.inl rfl) e⟩
 | frz ob u ih=>obtain ⟨e,q⟩:=x; exact ⟨k _ _ (.inl rfl) e,ih q⟩
 | tbl ps =>
  have e:h.get? a=some { cls:=.none,data:=.fields ps }:=x
  show h'.get? a=some { cls:=.none,data:=.fields ps }
  exact k a _ (.inl rfl) e
 | met f y =>
  have e:h.get? a=some (PySem.W.methodObj (.ref f) (.ref y)):=x
  show h'.get? a=some (PySem.W.methodObj (.ref f) (.ref y))
  exact k a _ (.inl rfl) e
 | ext φ=>obtain ⟨p,⟨o,e⟩,st⟩:=x; exact ⟨st _ _ p fun o q=>k _ _ (.inl rfl) q,⟨o,k _ _ (.inl rfl) e⟩,st⟩
theorem HOk.lt (x:HOk P w H h) (e:H a=some o):a < h.objs.size:=(x a o e).lt
theorem HOk.fresh (x:HOk P w H h) (e:h.objs.size≤a):H a=none:=by
 cases q:H a with
 | none=>rfl
 | some u=>exact absurd (Nat.lt_of_lt_of_le (x.lt q) e) (Nat.lt_irrefl _)
theorem HOk.kept (x:HOk P w H h) (k:∀ b u,h.get? b=some u→h'.get? b=some u):HOk P w H h':=fun a o e =>
 (x a o e).stay (fun b u _ q=>k b u q) (fun _ q=>q) fun _ _ q=>q
theorem HOk.laid (x:HOk P w H h) (k:∀ b u,h.get? b=some u→h'.get? b=some u) (hp:h.objs.size≤a) (new:ObjOk P w (upd H a o) h' a o):HOk P w (upd H a o) h':=fun b u e=>by
 have hn:=x.fresh hp
 by_cases hb:b=a
 ·subst hb; rw [upd_same] at e; cases e; exact new
 ·rw [upd_ne hb] at e
  exact (x b u e).stay (fun c v _ q=>k c v q) (fun c q=>by rw [upd_ne (ne_of_none q hn)]; exact q) fun c xs q=>by rw [upd_ne (ne_of_none q hn)]; exact q
end
noncomputable def Rd (H:Hp) (a:Addr) (u:HO):Prop:=H a=some u∨∃ o,H a=some (.frz o u)
theorem Rd.of {H:Hp} {a:Addr} {u:HO} (h:H a=some u):Rd H a u:=.inl h
theorem Rd.ok {P:Program} {w:World} {H:Hp} {h:Heap} {a:Addr} {u:HO} (r:Rd H a u) (x:HOk P w H h):ObjOk P w H h a u:=by
 rcases r with r | ⟨o,r⟩
 ·exact x a u r
 ·obtain ⟨_,q⟩:=x a _ r
  exact q
noncomputable def Mut:Option HO→Prop
 | some (.lst _)=>True
 | some (.dK _)=>True
 | some (.dT _)=>True
 | some (.set _ _)=>True
 | some (.ins _ _ _)=>True
 | some (.ext _)=>True
 | _=>False
section
variable {P:Program} {w:World} {H:Hp} {h h':Heap} {x e:Addr} {o':HO}
theorem HOk.write (ok:HOk P w H h) (mu:Mut (H x)) (he:e=x∨H e=some (.own x)) (k:∀ b u,b≠e→h.get? b=some u→h'.get? b=some u) (heo:∃ u,h'.get? e=some u)
  (new:ObjOk P w (upd H x o') h' x o'):HOk P w (upd H x o') h':=fun b u q=>by
 have nown:∀ c y,H c=some (.own y)→c≠x:=fun c y r z=>by subst z; rw [r] at mu; exact mu
 have ntup:∀ c xs,H c=some (.tup xs)→c≠x:=fun c xs r z=>by subst z; rw [r] at mu; exact mu
 by_cases hb:b=x
 ·subst hb; rw [upd_same] at q; cases q; exact new
 ·rw [upd_ne hb] at q
  by_cases hbe:b=e
  ·have q':H b=some (.own x):=by
    rcases he with z | z
    ·exact absurd (hbe.trans z) hb
    ·rw [hbe]; exact z
   rw [q] at q'; cases q'
   obtain ⟨v,hv⟩:=heo
   exact ⟨v,by rw [hbe]; exact hv⟩
  ·refine (ok b u q).stay (fun c v hc r=>k c v ?_ r) (fun c r=>by rw [upd_ne (nown c b r)]; exact r) fun c xs r=>by rw [upd_ne (ntup c xs r)]; exact r
   rcases hc with rfl | hc
   ·exact hbe
   ·rintro rfl
    rcases he with z | z
    ·exact nown c b hc z
    ·rw [hc] at z; cases z; exact hb rfl
end
structure Un (fs ex:List Addr) (H H':Hp) (h h':Heap):Prop where
 keep:∀ b o,h.get? b=some o→H b=none→b ∉ fs→b ∉ ex→h'.get? b=some o
 slot:∀ b o,h.get? b=some o→H b=none→b∈fs→b ∉ ex→∃ sl,h'.get? b=some { o with slots:=sl }
 free:∀ b o,h.get? b=some o→H b=none→b ∉ ex→H' b=none
 there:∀ b o,h.get? b=some o→b ∉ ex→∃ o',h'.get? b=some o'
 tups:∀ b xs,H b=some (.tup xs)→H' b=some (.tup xs)
 frzs:∀ b o u,H b=some (.frz o u)→H' b=some (.frz o u)
 tbls:∀ b ps,H b=some (.tbl ps)→∃ more,H' b=some (.tbl (ps ++ more))
section
variable {fs fs' ex ex':List Addr} {H H1 H2:Hp} {h h1 h2 h':Heap} {a x e:Addr} {o:HO}
theorem Un.any (u:Un fs ex H H1 h h1) {b:Addr} {ob:Obj} (q:h.get? b=some ob) (n:H b=none) (hx:b ∉ ex):∃ sl,h1.get? b=some { ob with slots:=sl }:=by
 by_cases hb:b∈fs
 ·exact u.slot b ob q n hb hx
 ·exact ⟨ob.slots,u.keep b ob q n hb hx⟩
theorem Un.kept (k:∀ b u,h.get? b=some u→h'.get? b=some u):Un fs ex H H h h' :=
 ⟨fun b ob q _ _ _=>k b ob q,fun b ob q _ _ _=>⟨ob.slots,k b ob q⟩,fun _ _ _ n _=>n,fun b ob q _=>⟨ob,k b ob q⟩,fun _ _ q=>q,fun _ _ _ q=>q,fun _ ps q=>⟨#[],by rw [q]; simp⟩⟩
theorem Un.refl:Un fs ex H H h h:=Un.kept fun _ _ q=>q
theorem Un.laid (k:∀ b u,h.get? b=some u→h'.get? b=some u) (hp:h.objs.size≤a) (hn:H a=none):Un fs ex H (upd H a o) h h' where
 keep:=fun b u q _ _ _=>k b u q
 slot:=fun b u q _ _ _=>⟨u.slots,k b u q⟩
 free:=fun b u q n _=>by rw [upd_ne (Nat.ne_of_lt (Nat.lt_of_lt_of_le (Heap.lt_size q) hp))]; exact n
 there:=fun b u q _=>⟨u,k b u q⟩
 tups:=fun b xs q=>by rw [upd_ne (ne_of_none q hn)]; exact q
 frzs:=fun b u xs q=>by rw [upd_ne (ne_of_none q hn)]; exact q
 tbls:=fun b ps q=>⟨#[],by rw [upd_ne (ne_of_none q hn),q]; simp⟩
theorem Un.write (mu:Mut (H x)) (he:e=x∨H e=some (.own x)) (k:∀ b u,b≠e→h.get? b=some u→h'.get? b=some u) (heo:∃ u,h'.get? e=some u):Un fs ex H (upd H x o) h h':=by
 have hx:∀ b,H b=none→b≠x:=fun b n z=>by subst z; rw [n] at mu; exact mu
 have hb:∀ b,H b=none→b≠e:=fun b n z=>by
  subst z
  rcases he with r | r
  ·exact hx b n r
  ·rw [n] at r; cases r
 have hm:∀ b u,H b=some u→¬ Mut (some u)→b≠x:=fun b u q nm z=>by subst z; rw [q] at mu; exact nm mu
 refine ⟨fun b u q n _ _=>k b u (hb b n) q,fun b u q n _ _=>⟨u.slots,k b u (hb b n) q⟩,fun b u q n _=>by rw [upd_ne (hx b n)]; exact n,fun b u q _=>?_,
  fun b xs q=>by rw [upd_ne (hm b _ q fun z=>z)]; exact q,fun b u xs q=>by rw [upd_ne (hm b _ q fun z=>z)]; exact q,fun b ps q=>⟨#[],by rw [upd_ne (hm b _ q fun z=>z),q]; simp⟩⟩
 by_cases hbe:b=e
 ·subst hbe; exact heo
 ·exact ⟨u,k b u hbe q⟩
end
noncomputable def trk (h:Heap) (H:Hp):List Addr:=(List.range h.objs.size).filter fun a=>(H a).isSome
noncomputable def hidT (h:Heap) (H:Hp):Heap:=PySem.W.hideAll h (trk h H)
theorem hidT_size (h:Heap) (H:Hp):(hidT h H).objs.size=h.objs.size:=PySem.W.hideAll_size _ _
theorem hidT_get {h:Heap} {H:Hp} {b:Addr} {o:Obj} (e:h.get? b=some o) (n:H b=none):(hidT h H).get? b=some o :=
 PySem.W.hideAll_get _ e fun hm=>by
  have q:(H b).isSome=true:=(List.mem_filter.mp hm).2
  rw [n] at q; simp at q
theorem of_hidT {h:Heap} {H:Hp} {b:Addr} {o:Obj} (e:(hidT h H).get? b=some o):h.get? b=some o∧H b=none:=by
 have e':h.get? b=some o:=PySem.W.of_hideAll (trk h H) e
 refine ⟨e',?_⟩
 cases q:H b with
 | none=>rfl
 | some x =>
  have hm:b∈trk h H:=List.mem_filter.mpr ⟨List.mem_range.mpr (Heap.lt_size e'),by simp [q]⟩
  have z:(hidT h H).get? b=none:=PySem.W.hideAll_none (trk h H) hm
  rw [z] at e; cases e
end L2
namespace L2
open PySem PySem.Spec PyProof.Rows
structure Mod (K:PySem.W.Frag) (mg:Str→Option Value) (base:Heap):Prop where
 kin:K.In base
 glob:base.Ns mainGlobals mg
 blt:∃ mb,base.Ns builtinsNs mb∧∀ x:Str,x≠"__name__"→mb x=bootBuiltins x
 nolimit:base.NoLimit
structure Cx where
 prog:Program
 w:World
 K:PySem.W.Frag
 mg:Str→Option Value
 base:Heap
 A:Around
 N:List Str
 s₀:Shared
 H₀:Hp
 env:Env
 outer:List Env
 stack:List Env
 ex:List Addr
 fn:Str→Bool
 calm:Bool
 pn:List (Addr×Obj)
 xe:Value→Shared→Prop
noncomputable def frs (l:List Env):List Addr:=l.filterMap (·.frame)
noncomputable abbrev Cx.fs (X:Cx):List Addr:=frs X.outer
noncomputable def Vis (sc:Scope) (x:Str):Prop:=sc.names.lookup x=some .local∨sc.names.lookup x=some .cell∨sc.names.lookup x=some .free
noncomputable def Loc (sc:Scope) (x:Str):Prop:=sc.names.lookup x=some .local∨sc.names.lookup x=some .cell
noncomputable def Look (env:Env) (h:Heap) (m:Str→Option Value) (x:Str) (u:Value):Prop :=
 (env.kindOf x=some .local∧m x=some u)∨((env.kindOf x=some .cell∨env.kindOf x=some .free)∧∃ c,env.cells.lookup x=some c∧h.IsCell c (some u))
structure Cx.Ok (X:Cx):Prop where
 mod:Mod X.K X.mg X.base
 kind:X.env.scope.kind=.function
 glob:X.env.globals=mainGlobals
 blt:X.env.builtins=builtinsNs
 above:X.s₀.heap.objs.size≤X.env.locals
 inj:∀ x y c,X.env.cells.lookup x=some c→X.env.cells.lookup y=some c→x=y
 has:∀ x,(X.env.kindOf x=some .cell∨X.env.kindOf x=some .free)→∃ c,X.env.cells.lookup x=some c
 cab:∀ x c,X.fn x=true→X.env.cells.lookup x=some c→X.s₀.heap.objs.size≤c
 hd:X.calm=true→X.A.handled=none
 frames:X.A.frames=some X.stack
 stk:X.stack=X.outer∨(X.stack=X.env :: X.outer∧X.env.frame=some X.env.locals)
 exf:∀ b∈X.ex,b≠X.env.locals∧∀ x c,X.env.cells.lookup x=some c→c≠b
 bs:∀ b o,X.base.get? b=some o→X.s₀.heap.get? b=some o∧X.H₀ b=none
 bsz:X.base.objs.size≤X.s₀.heap.objs.size
 noex:∀ b o,X.base.get? b=some o→b ∉ X.ex
 exfs:∀ b∈X.ex,b ∉ X.fs
 funs:X.s₀.heap.FunFrames X.base X.outer
 frf:∀ b∈X.fs,X.H₀ b=none
structure Inv (X:Cx) (pins:List (Addr×Obj)) (σ:List (Option V)) (H:Hp) (s:Shared):Prop where
 ok:X.Ok
 os:s.os=X.s₀.os
 bare:AllBare s.gens
 base:Un X.fs X.ex X.H₀ H X.s₀.heap s.heap
 loc:∃ m,s.heap.Ns X.env.locals m∧∀ (i:Nat) (x:Str) (v:V),X.N[i]?=some x→σ[i]?=some (some v)→Vis X.env.scope x→∃ u,RelV v u∧Look X.env s.heap m x u
 cell:∀ x c,X.env.cells.lookup x=some c→∃ v,s.heap.IsCell c v
 free:H X.env.locals=none
 freeC:∀ x c,X.env.cells.lookup x=some c→H c=none
 pin:∀ p∈X.pn ++ pins,s.heap.get? p.1=some p.2∧H p.1=none∧p.1≠X.env.locals∧p.1 ∉ X.fs∧∀ v,p.2.data≠.cell v
 hok:HOk X.prog X.w H s.heap
 len:σ.length=X.N.length
section
variable {X:Cx} {pins:List (Addr×Obj)} {σ:List (Option V)} {H H':Hp} {s:Shared} {h':Heap}
theorem Cx.Ok.nofr (ok:X.Ok) {b:Addr} {o:Obj} (e:X.base.get? b=some o):b ∉ X.fs:=fun hb=>by
 have:=(ok.funs.mem hb).1
 rw [e] at this; cases this
theorem Inv.bs (I:Inv X pins σ H s):∀ b o,X.base.get? b=some o→s.heap.get? b=some o∧H b=none:=fun b o e =>
 ⟨I.base.keep b o (I.ok.bs b o e).1 (I.ok.bs b o e).2 (I.ok.nofr e) (I.ok.noex b o e),I.base.free b o (I.ok.bs b o e).1 (I.ok.bs b o e).2 (I.ok.noex b o e)⟩
theorem Inv.bk (I:Inv X pins σ H s):∀ b o,X.base.get? b=some o→s.heap.get? b=some o:=fun b o e=>(I.bs b o e).1
theorem Inv.mod (I:Inv X pins σ H s):Mod X.K X.mg X.base:=I.ok.mod
theorem Inv.kIn (I:Inv X pins σ H s):X.K.In s.heap:=I.ok.mod.kin.keeps I.bk
theorem Inv.lt (I:Inv X pins σ H s):X.env.locals < s.heap.objs.size:=let ⟨_,hn,_⟩:=I.loc; hn.lt
theorem Inv.sz (I:Inv X pins σ H s):X.s₀.heap.objs.size≤s.heap.objs.size:=Nat.le_trans I.ok.above (Nat.le_of_lt I.lt)
theorem Inv.nofs (I:Inv X pins σ H s) {a:Addr} (h:s.heap.objs.size≤a):a ∉ X.fs:=fun hb=>by
 obtain ⟨_,o,ho,_⟩:=I.ok.funs.mem hb
 exact absurd (Nat.lt_of_lt_of_le (Heap.lt_size ho) (Nat.le_trans I.sz h)) (Nat.lt_irrefl _)
theorem Inv.cne (I:Inv X pins σ H s):∀ x c,X.env.cells.lookup x=some c→c≠X.env.locals:=fun x c e z=>by
 obtain ⟨v,o,ho,hd⟩:=I.cell x c e
 obtain ⟨m,⟨o',es,ep,ho',hd',_⟩,_⟩:=I.loc
 rw [z,ho'] at ho; cases ho; rw [hd'] at hd; cases hd
theorem Inv.funs (I:Inv X pins σ H s):s.heap.FunFrames X.base X.outer:=by
 have all:∀ (l:List Env),(∀ b∈frs l,b∈X.fs)→X.s₀.heap.FunFrames X.base l→s.heap.FunFrames X.base l:=by
  intro l
  induction l with
  | nil=>intro _ _; trivial
  | cons env r ih =>
   intro hs hl
   obtain ⟨hk,⟨L,o,hf,hn,ho,hd⟩,hr⟩:=hl
   have hL:L∈X.fs:=hs L (by unfold frs; rw [List.filterMap_cons,hf]; exact List.mem_cons_self)
   obtain ⟨sl,e⟩:=I.base.slot L o ho (I.ok.frf L hL) hL fun z=>I.ok.exfs L z hL
   exact ⟨hk,⟨L,_,hf,hn,e,hd⟩,ih (fun b hb=>hs b (by unfold frs; rw [List.filterMap_cons,hf]; exact List.mem_cons_of_mem _ hb)) hr⟩
 exact all X.outer (fun _ hb=>hb) I.ok.funs
theorem Inv.stack (I:Inv X pins σ H s):s.heap.FunFrames X.base X.stack:=by
 rcases I.ok.stk with e | ⟨e,hf⟩
 ·rw [e]; exact I.funs
 ·rw [e]
  obtain ⟨m,hn,_⟩:=I.loc
  refine .cons (by rw [I.ok.kind]; decide) hf hn ?_ I.funs
  exact Heap.get?_none_of_le (Nat.le_trans I.ok.bsz I.ok.above)
theorem Inv.stkSub (I:Inv X pins σ H s):∀ b∈frs X.stack,b∈X.env.locals :: X.fs:=fun b hb=>by
 rcases I.ok.stk with e | ⟨e,hf⟩
 ·rw [e] at hb; exact List.mem_cons_of_mem _ hb
 ·rw [e] at hb
  unfold frs at hb
  rw [List.filterMap_cons,hf] at hb
  exact hb
theorem Inv.stkFree (I:Inv X pins σ H s):∀ b∈frs X.stack,H b=none:=fun b hb=>by
 rcases List.mem_cons.mp (I.stkSub b hb) with e | hb
 ·rw [e]; exact I.free
 ·obtain ⟨_,o,ho,_⟩:=I.ok.funs.mem hb
  exact I.base.free b o ho (I.ok.frf b hb) fun z=>I.ok.exfs b z hb
theorem Inv.step {g':Array GenState} {t':Nat} {d':Drawn} {ch:List Addr} (I:Inv X pins σ H s)
  (hch:∀ b∈ch,(b∈X.ex∨X.s₀.heap.objs.size≤b)∧b≠X.env.locals∧(∀ x c,X.env.cells.lookup x=some c→c≠b)∧∀ p∈X.pn ++ pins,p.1≠b)
  (keep:∀ b o,b≠X.env.locals→b ∉ X.fs→b ∉ ch→s.heap.get? b=some o→H b=none→h'.get? b=some o)
  (slot:∀ b o,b≠X.env.locals→b∈X.fs→b ∉ ch→s.heap.get? b=some o→H b=none→∃ sl,h'.get? b=some { o with slots:=sl }) (free:∀ b o,b ∉ ch→s.heap.get? b=some o→H b=none→H' b=none)
  (there:∀ b o,b ∉ ch→s.heap.get? b=some o→∃ o',h'.get? b=some o')
  (tups:∀ b xs,H b=some (.tup xs)→H' b=some (.tup xs)) (frzs:∀ b o u,H b=some (.frz o u)→H' b=some (.frz o u)) (tbls:∀ b ps,H b=some (.tbl ps)→∃ more,H' b=some (.tbl (ps ++ more)))
  (ns:∀ m,s.heap.Ns X.env.locals m→h'.Ns X.env.locals m) (hok:HOk X.prog X.w H' h') (hg:AllBare g') :
  Inv X pins σ H' { s with heap:=h',gens:=g',drawn:=d',toks:=t' }:=by
 have neL:∀ b o,X.s₀.heap.get? b=some o→b≠X.env.locals:=fun b o e=>Nat.ne_of_lt (Nat.lt_of_lt_of_le (Heap.lt_size e) I.ok.above)
 have neC:∀ b o,X.s₀.heap.get? b=some o→b ∉ X.ex→b ∉ ch:=fun b o e hx hb=>by
  rcases (hch b hb).1 with z | z
  ·exact hx z
  ·exact absurd (Nat.lt_of_lt_of_le (Heap.lt_size e) z) (Nat.lt_irrefl _)
 have cellK:∀ x c,X.env.cells.lookup x=some c→∀ v,s.heap.IsCell c v→h'.IsCell c v:=fun x c e v ⟨o,ho,hd⟩=>by
  have nch:c ∉ ch:=fun z=>(hch c z).2.2.1 x c e rfl
  by_cases hc:c∈X.fs
  ·obtain ⟨sl,q⟩:=slot c o (I.cne x c e) hc nch ho (I.freeC x c e)
   exact ⟨_,q,hd⟩
  ·exact ⟨o,keep c o (I.cne x c e) hc nch ho (I.freeC x c e),hd⟩
 refine ⟨I.ok,I.os,hg,⟨fun b o e n hb hx=>?_,fun b o e n hb hx=>?_,fun b o e n hx=>?_,fun b o e hx=>?_,fun b xs e=>tups b xs (I.base.tups b xs e),fun b o xs e=>frzs b o xs (I.base.frzs b o xs e),fun b ps e=>?_⟩,?_,fun x c e=>?_,?_,fun x c e=>?_,fun p hp=>?_,hok,I.len⟩
 ·exact keep b o (neL b o e) hb (neC b o e hx) (I.base.keep b o e n hb hx) (I.base.free b o e n hx)
 ·obtain ⟨sl,e1⟩:=I.base.slot b o e n hb hx
  obtain ⟨sl',e2⟩:=slot b _ (neL b o e) hb (neC b o e hx) e1 (I.base.free b o e n hx)
  exact ⟨sl',e2⟩
 ·obtain ⟨o',e1⟩:=I.base.there b o e hx
  exact free b o' (neC b o e hx) e1 (I.base.free b o e n hx)
 ·obtain ⟨o',e1⟩:=I.base.there b o e hx
  exact there b o' (neC b o e hx) e1
 ·obtain ⟨m1,e1⟩:=I.base.tbls b ps e
  obtain ⟨m2,e2⟩:=tbls b _ e1
  exact ⟨m1 ++ m2,by rw [e2,Array.append_assoc]⟩
 ·obtain ⟨m,hn,hl⟩:=I.loc
  refine ⟨m,ns m hn,fun i x v e1 e2 e3=>?_⟩
  obtain ⟨u,r,l⟩:=hl i x v e1 e2 e3
  refine ⟨u,r,?_⟩
  rcases l with l | ⟨k,c,e,z⟩
  ·exact .inl l
  ·exact .inr ⟨k,c,e,cellK x c e _ z⟩
 ·obtain ⟨v,z⟩:=I.cell x c e
  exact ⟨v,cellK x c e v z⟩
 ·obtain ⟨m,⟨o,_,_,ho,_⟩,_⟩:=I.loc
  exact free _ o (fun z=>(hch _ z).2.1 rfl) ho I.free
 ·obtain ⟨v,o,ho,hd⟩:=I.cell x c e
  exact free c o (fun z=>(hch c z).2.2.1 x c e rfl) ho (I.freeC x c e)
 ·obtain ⟨e,n,ne,nf,d⟩:=I.pin p hp
  have nch:p.1 ∉ ch:=fun z=>(hch p.1 z).2.2.2 p hp rfl
  exact ⟨keep p.1 p.2 ne nf nch e n,free p.1 p.2 nch e n,ne,nf,d⟩
theorem Inv.un {t':Nat} (I:Inv X pins σ H s) (u:Un X.fs [] H H' s.heap h') (hok:HOk X.prog X.w H' h'):Inv X pins σ H' { s with heap:=h',toks:=t' }:=by
 obtain ⟨m,⟨o,es,ep,ho,r⟩,_⟩:=id I.loc
 obtain ⟨sl,hL⟩:=u.any ho I.free (by simp)
 exact I.step (g':=s.gens) (d':=s.drawn) (ch:=[]) (fun _ z=>nomatch z) (fun b o _ hb _ e n=>u.keep b o e n hb (by simp)) (fun b o _ hb _ e n=>u.slot b o e n hb (by simp)) (fun b o _ e n=>u.free b o e n (by simp)) (fun b o _ e=>u.there b o e (by simp)) u.tups u.frzs u.tbls (fun m' hm=>by
  obtain ⟨o',es',ep',ho',r'⟩:=hm
  rw [ho] at ho'; cases ho'
  exact ⟨_,es',ep',hL,r'⟩) hok I.bare
theorem Inv.call {g':Array GenState} {t':Nat} {d':Drawn} {ch:List Addr} (I:Inv X pins σ H s) (u:Un (frs X.stack) ch H H' s.heap h') (hok:HOk X.prog X.w H' h') (hg:AllBare g')
  (hch:∀ b∈ch,(b∈X.ex∨X.s₀.heap.objs.size≤b)∧b≠X.env.locals∧(∀ x c,X.env.cells.lookup x=some c→c≠b)∧∀ p∈X.pn ++ pins,p.1≠b) :
  Inv X pins σ H' { s with heap:=h',gens:=g',drawn:=d',toks:=t' }:=by
 obtain ⟨m,⟨o,es,ep,ho,r⟩,_⟩:=id I.loc
 obtain ⟨sl,hL⟩:=u.any ho I.free fun z=>(hch _ z).2.1 rfl
 exact I.step (ch:=ch) hch (fun b o hL hb hc e n=>u.keep b o e n (fun z=>(List.mem_cons.mp (I.stkSub b z)).elim hL hb) hc) (fun b o _ _ hc e n=>u.any e n hc) (fun b o hc e n=>u.free b o e n hc) (fun b o hc e=>u.there b o e hc) u.tups u.frzs u.tbls (fun m' hm=>by
  obtain ⟨o',es',ep',ho',r'⟩:=hm
  rw [ho] at ho'; cases ho'
  exact ⟨_,es',ep',hL,r'⟩) hok hg
theorem Inv.turned {t':Nat} {it:Addr} (I:Inv X pins σ H s) (k:∀ b o,b≠it→s.heap.get? b=some o→h'.get? b=some o) (hn:H it=none) (hL:it≠X.env.locals)
  (h1:it∈X.ex∨X.s₀.heap.objs.size≤it) (h2:∀ x c,X.env.cells.lookup x=some c→c≠it) (h3:∀ p∈X.pn ++ pins,p.1≠it):Inv X pins σ H { s with heap:=h',toks:=t' }:=by
 have nit:∀ b u,H b=some u→b≠it:=fun b u e z=>by rw [z,hn] at e; cases e
 refine I.step (g':=s.gens) (d':=s.drawn) (ch:=[it]) (fun b hb=>?_) (fun b o _ _ hc e _=>k b o (fun z=>hc (by simp [z])) e) (fun b o _ _ hc e _=>⟨o.slots,k b o (fun z=>hc (by simp [z])) e⟩) (fun _ _ _ _ n=>n)
  (fun b o hc e=>⟨o,k b o (fun z=>hc (by simp [z])) e⟩) (fun _ _ e=>e) (fun _ _ _ e=>e) (fun b ps e=>⟨#[],by rw [e]; simp⟩) (fun m hm=>?_) (fun b u e=>?_) I.bare
 ·have e:b=it:=by simpa using hb
  subst e
  exact ⟨h1,hL,h2,h3⟩
 ·obtain ⟨o,es,ep,ho,r⟩:=hm
  exact ⟨o,es,ep,k _ o (Ne.symm hL) ho,r⟩
 ·refine (I.hok b u e).stay (fun c v hc q=>k c v ?_ q) (fun _ q=>q) fun _ _ q=>q
  rcases hc with z | z
  ·rw [z]; exact nit b u e
  ·exact nit c _ z
theorem Inv.tok (I:Inv X pins σ H s) (t:Nat):Inv X pins σ H { s with toks:=t }:=I.un (h':=s.heap) (t':=t) Un.refl I.hok
theorem Inv.kept {t':Nat} (I:Inv X pins σ H s) (k:∀ b u,s.heap.get? b=some u→h'.get? b=some u):Inv X pins σ H { s with heap:=h',toks:=t' }:=I.un (Un.kept k) (I.hok.kept k)
theorem Inv.laid {a:Addr} {o:HO} {t':Nat} (I:Inv X pins σ H s) (k:∀ b u,s.heap.get? b=some u→h'.get? b=some u) (hp:s.heap.objs.size≤a) (new:ObjOk X.prog X.w (upd H a o) h' a o) :
  Inv X pins σ (upd H a o) { s with heap:=h',toks:=t' }:=I.un (Un.laid k hp (I.hok.fresh hp)) (I.hok.laid k hp new)
theorem Inv.write {x e:Addr} {o:HO} {t':Nat} (I:Inv X pins σ H s) (mu:Mut (H x)) (he:e=x∨H e=some (.own x)) (k:∀ b u,b≠e→s.heap.get? b=some u→h'.get? b=some u) (heo:∃ u,h'.get? e=some u)
  (new:ObjOk X.prog X.w (upd H x o) h' x o):Inv X pins σ (upd H x o) { s with heap:=h',toks:=t' }:=I.un (Un.write mu he k heo) (I.hok.write mu he k heo new)
theorem Inv.pins_of {pins':List (Addr×Obj)} (I:Inv X pins σ H s) (h:∀ p∈pins',s.heap.get? p.1=some p.2∧H p.1=none∧p.1≠X.env.locals∧p.1 ∉ X.fs∧∀ v,p.2.data≠.cell v):Inv X pins' σ H s :=
 ⟨I.ok,I.os,I.bare,I.base,I.loc,I.cell,I.free,I.freeC,fun p hp=>(List.mem_append.mp hp).elim (fun z=>I.pin p (List.mem_append_left _ z)) (h p),I.hok,I.len⟩
theorem nodup_ix {N:List Str} (hN:N.Nodup) {i j:Nat} {x:Str} (a:N[i]?=some x) (b:N[j]?=some x):i=j:=by
 obtain ⟨h1,e1⟩:=List.getElem?_eq_some_iff.mp a
 obtain ⟨h2,e2⟩:=List.getElem?_eq_some_iff.mp b
 exact (List.getElem_inj hN).mp (e1.trans e2.symm)
theorem store_ok2 {M:Model} {A:Around} {E:Value→Shared→Prop} {i:Nat} {x:Str} {v:V} {u:Value} {Q:Unit→Shared→Prop} (I:Inv X pins σ H s) (hN:X.N.Nodup) (hi:X.N[i]?=some x) (hx:Loc X.env.scope x) (r:RelV v u)
  (h:∀ s',Inv X pins (σ.set i (some v)) H s'→(∃ a,Heap.SameBut a s.heap s'.heap∧(a=X.env.locals∨X.env.cells.lookup x=some a))→Q () s') (hf:X.fn x=true∨X.env.scope.names.lookup x=some .local:=by first | exact .inl rfl | exact .inr rfl | assumption):wpAny M A (storeName X.env x u) Q E s:=by
 obtain ⟨m,hn,hl⟩:=id I.loc
 have hcls:(X.env.scope.kind == .class || (X.env.scope.kind == .module && X.env.locals != X.env.globals))=false:=by rw [I.ok.kind]; rfl
 have hiσ:i < σ.length:=by rw [I.len]; exact (List.getElem?_eq_some_iff.mp hi).1
 have cne:=I.cne
 have tracked:∀ {a:Addr} {h':Heap},(∃ o,s.heap.get? a=some o∧H a=none)→Heap.SameBut a s.heap h'→HOk X.prog X.w H h':=fun {a h'} ha hs b ob e=>by
  obtain ⟨_,_,hfree⟩:=ha
  refine (I.hok b ob e).stay (fun c w' hc q=>(hs.2 c ?_).trans q) (fun _ q=>q) fun _ _ q=>q
  rintro rfl
  rcases hc with rfl | hc
  ·rw [hfree] at e; cases e
  ·rw [hfree] at hc; cases hc
 rcases hx with hk | hk
 ·refine wpAny_storeName_local hk hn (fun h' hn' hs=>?_) hcls
  obtain ⟨oL,_,_,hoL,_⟩:=id hn
  refine h _ ⟨I.ok,I.os,I.bare,⟨fun b o e n hb hx=>?_,fun b o e n hb hx=>?_,I.base.free,fun b o e hx=>?_,I.base.tups,I.base.frzs,I.base.tbls⟩,⟨_,hn',fun j y v' e1 e2 e3=>?_⟩,fun y c e=>?_,I.free,I.freeC,fun p hp=>?_,tracked ⟨oL,hoL,I.free⟩ hs,by simpa using I.len⟩ ⟨_,hs,.inl rfl⟩
  ·exact (hs.2 b (Nat.ne_of_lt (Nat.lt_of_lt_of_le (Heap.lt_size e) I.ok.above))).trans (I.base.keep b o e n hb hx)
  ·obtain ⟨sl,e1⟩:=I.base.slot b o e n hb hx
   exact ⟨sl,(hs.2 b (Nat.ne_of_lt (Nat.lt_of_lt_of_le (Heap.lt_size e) I.ok.above))).trans e1⟩
  ·obtain ⟨o',e1⟩:=I.base.there b o e hx
   exact ⟨o',(hs.2 b (Nat.ne_of_lt (Nat.lt_of_lt_of_le (Heap.lt_size e) I.ok.above))).trans e1⟩
  ·by_cases hj:j=i
   ·subst hj
    rw [hi] at e1; cases e1
    rw [List.getElem?_set_self hiσ] at e2
    cases e2
    exact ⟨u,r,.inl ⟨hk,by simp⟩⟩
   ·rw [List.getElem?_set_ne (Ne.symm hj)] at e2
    obtain ⟨u',r',q⟩:=hl j y v' e1 e2 e3
    refine ⟨u',r',?_⟩
    rcases q with ⟨k,e⟩ | ⟨k,c,e,z⟩
    ·refine .inl ⟨k,?_⟩
     have:y≠x:=fun e=>hj (nodup_ix hN e1 (e ▸ hi))
     simp [this,e]
    ·exact .inr ⟨k,c,e,z.sameBut hs (cne y c e)⟩
  ·obtain ⟨w',z⟩:=I.cell y c e
   exact ⟨w',z.sameBut hs (cne y c e)⟩
  ·obtain ⟨e,n,ne,nf,d⟩:=I.pin p hp
   exact ⟨(hs.2 p.1 ne).trans e,n,ne,nf,d⟩
 ·have hfn:X.fn x=true:=by
   rcases hf with z | z
   ·exact z
   ·rw [z] at hk; cases hk
  obtain ⟨c,hc⟩:=I.ok.has x (.inl hk)
  obtain ⟨w',z⟩:=I.cell x c hc
  refine wpAny_storeName_cell I.ok.kind hk hc z (fun h' hc' hs=>?_)
  obtain ⟨oc,hoc,hocd⟩:=id z
  refine h { s with heap:=h' } ⟨I.ok,I.os,I.bare,⟨fun b o e n hb hx=>?_,fun b o e n hb hx=>?_,I.base.free,fun b o e hx=>?_,I.base.tups,I.base.frzs,I.base.tbls⟩,⟨m,hn.sameBut hs (Ne.symm (cne x c hc)),fun j y v' e1 e2 e3=>?_⟩,fun y c' e=>?_,I.free,I.freeC,fun p hp=>?_,tracked ⟨oc,hoc,I.freeC x c hc⟩ hs,by simpa using I.len⟩ ⟨c,hs,.inr hc⟩
  ·exact (hs.2 b (Nat.ne_of_lt (Nat.lt_of_lt_of_le (Heap.lt_size e) (I.ok.cab x c hfn hc)))).trans (I.base.keep b o e n hb hx)
  ·obtain ⟨sl,e1⟩:=I.base.slot b o e n hb hx
   exact ⟨sl,(hs.2 b (Nat.ne_of_lt (Nat.lt_of_lt_of_le (Heap.lt_size e) (I.ok.cab x c hfn hc)))).trans e1⟩
  ·obtain ⟨o',e1⟩:=I.base.there b o e hx
   exact ⟨o',(hs.2 b (Nat.ne_of_lt (Nat.lt_of_lt_of_le (Heap.lt_size e) (I.ok.cab x c hfn hc)))).trans e1⟩
  ·by_cases hj:j=i
   ·subst hj
    rw [hi] at e1; cases e1
    rw [List.getElem?_set_self hiσ] at e2
    cases e2
    exact ⟨u,r,.inr ⟨.inl hk,c,hc,hc'⟩⟩
   ·rw [List.getElem?_set_ne (Ne.symm hj)] at e2
    obtain ⟨u',r',q⟩:=hl j y v' e1 e2 e3
    refine ⟨u',r',?_⟩
    rcases q with q | ⟨k,c',e,z'⟩
    ·exact .inl q
    ·refine .inr ⟨k,c',e,z'.sameBut hs ?_⟩
     rintro rfl
     exact hj (nodup_ix hN e1 (I.ok.inj _ _ _ e hc ▸ hi))
  ·by_cases hcc:c'=c
   ·subst hcc; exact ⟨_,hc'⟩
   ·obtain ⟨w2,z2⟩:=I.cell y c' e
    exact ⟨w2,z2.sameBut hs hcc⟩
  ·obtain ⟨e,n,ne,nf,d⟩:=I.pin p hp
   refine ⟨(hs.2 p.1 ?_).trans e,n,ne,nf,d⟩
   intro q
   rw [q,hoc] at e
   have q':oc=p.2:=Option.some.inj e
   exact d w' (by rw [← q']; exact hocd)
theorem store_ok {M:Model} {A:Around} {E:Value→Shared→Prop} {i:Nat} {x:Str} {v:V} {u:Value} {Q:Unit→Shared→Prop} (I:Inv X pins σ H s) (hN:X.N.Nodup) (hi:X.N[i]?=some x) (hx:Loc X.env.scope x) (r:RelV v u)
  (h:∀ s',Inv X pins (σ.set i (some v)) H s'→Q () s') (hf:X.fn x=true∨X.env.scope.names.lookup x=some .local:=by first | exact .inl rfl | exact .inr rfl | assumption):wpAny M A (storeName X.env x u) Q E s :=
 store_ok2 I hN hi hx r (fun s' I' _=>h s' I') hf
theorem Inv.call' {s':Shared} {ch:List Addr} (I:Inv X pins σ H s) (ho:s'.os=s.os) (u:Un (frs X.stack) ch H H' s.heap s'.heap) (hok:HOk X.prog X.w H' s'.heap) (hg:AllBare s'.gens)
  (hch:∀ b∈ch,(b∈X.ex∨X.s₀.heap.objs.size≤b)∧b≠X.env.locals∧(∀ x c,X.env.cells.lookup x=some c→c≠b)∧∀ p∈X.pn ++ pins,p.1≠b):Inv X pins σ H' s':=by
 obtain ⟨h',g',d',t',o'⟩:=s'
 have e:o'=s.os:=ho
 subst e
 exact I.call (g':=g') (t':=t') (d':=d') u hok hg hch
end
noncomputable abbrev XK:=Value→Option Addr→Hp→Prop
noncomputable abbrev St:=List (Option V)
noncomputable abbrev VK:=V→Hp→Prop
noncomputable abbrev TE:=St→Hp→VK→Prop
noncomputable abbrev TT:=St→Hp→(Bool→Hp→Prop)→Prop
noncomputable abbrev TA:=St→Hp→(List V→Hp→Prop)→Prop
structure Ends where
 nx:St→Hp→Prop
 rt:VK
 bk:St→Hp→Prop:=fun _ _=>False
 ct:St→Hp→Prop:=fun _ _=>False
noncomputable abbrev TS:=Ends→St→Hp→Prop
noncomputable def EP (X:Cx) (pins:List (Addr×Obj)) (σ:St) (Q:VK) (u:Value) (s':Shared):Prop:=Ex_2_3 (fun v H'=>Inv X pins σ H' s') (fun v H'=>RelV v u) (fun v H'=>Q v H')
noncomputable def TP (X:Cx) (pins:List (Addr×Obj)) (σ:St) (Q:Bool→Hp→Prop) (b:Bool) (s':Shared):Prop:=∃ H',Inv X pins σ H' s'∧Q b H'
noncomputable def AP (X:Cx) (pins:List (Addr×Obj)) (σ:St) (Q:List V→Hp→Prop) (us:List Value) (s':Shared):Prop:=Ex_2_3 (fun vs H'=>Inv X pins σ H' s') (fun vs H'=>Vals vs us) (fun vs H'=>Q vs H')
noncomputable def SP (X:Cx) (pins:List (Addr×Obj)) (D:Ends) (f:Flow) (s':Shared):Prop :=
 match f with
 | .next=>∃ σ' H',Inv X pins σ' H' s'∧D.nx σ' H'
 | .brk=>∃ σ' H',Inv X pins σ' H' s'∧D.bk σ' H'
 | .cont=>∃ σ' H',Inv X pins σ' H' s'∧D.ct σ' H'
 | .ret u=>∃ v σ' H',Inv X pins σ' H' s'∧RelV v u∧D.rt v H'
noncomputable def PE (X:Cx) (e:Expr) (t:TE):Prop :=
 ∀ (pins:List (Addr×Obj)) (s:Shared) (σ:St) (H:Hp) (Q:VK),Inv X pins σ H s→t σ H Q→wpAny (model X.prog X.w) X.A (eval e X.env) (EP X pins σ Q) X.xe s
noncomputable def PT (X:Cx) (e:Expr) (t:TT):Prop :=
 ∀ (pins:List (Addr×Obj)) (s:Shared) (σ:St) (H:Hp) (Q:Bool→Hp→Prop),Inv X pins σ H s→t σ H Q→wpAny (model X.prog X.w) X.A (isTrue e X.env (eval e X.env)) (TP X pins σ Q) X.xe s
noncomputable def PW (X:Cx) (e:Expr) (t:TT):Prop :=
 ∀ (whole:Sem Value) (pins:List (Addr×Obj)) (s:Shared) (σ:St) (H:Hp) (Q:Bool→Hp→Prop),Inv X pins σ H s→t σ H Q→wpAny (model X.prog X.w) X.A (isTrue e X.env whole) (TP X pins σ Q) X.xe s
theorem PW.pt {X:Cx} {e:Expr} {t:TT} (h:PW X e t):PT X e t:=h _
noncomputable def PA (X:Cx) (es:List Expr) (t:TA):Prop :=
 ∀ (pos:Pos) (pins:List (Addr×Obj)) (s:Shared) (σ:St) (H:Hp) (Q:List V→Hp→Prop),Inv X pins σ H s→t σ H Q→wpAny (model X.prog X.w) X.A (spliced (backTo pos (starEach es X.env))) (AP X pins σ Q) X.xe s
noncomputable def PS (X:Cx) (st:Stmt) (t:TS):Prop :=
 ∀ (pins:List (Addr×Obj)) (s:Shared) (σ:St) (H:Hp) (D:Ends),Inv X pins σ H s→t D σ H→wpAny (model X.prog X.w) X.A (exec st X.env) (SP X pins D) X.xe s
noncomputable def PSs (X:Cx) (st:List Stmt) (t:TS):Prop :=
 ∀ (pins:List (Addr×Obj)) (s:Shared) (σ:St) (H:Hp) (D:Ends),Inv X pins σ H s→t D σ H→wpAny (model X.prog X.w) X.A (execs st X.env) (SP X pins D) X.xe s
theorem thn {α:Type} {t:Sem α} {Q Q':α→Shared→Prop} {M:Model} {A:Around} {E:Value→Shared→Prop} {s:Shared} (h:wpAny M A t Q E s) (hQ:∀ a s,Q a s→Q' a s):wpAny M A t Q' E s:=wpAny_mono h hQ fun _ _ x=>x
theorem thnE {X:Cx} {pins:List (Addr×Obj)} {σ:St} {Q:VK} {t:Sem Value} {Q':Value→Shared→Prop} {M:Model} {A:Around} {E:Value→Shared→Prop} {s:Shared} (h:wpAny M A t (EP X pins σ Q) E s) (k:∀ u s' v H',Inv X pins σ H' s'→RelV v u→Q v H'→Q' u s'):wpAny M A t Q' E s:=wpAny_mono h (fun u s' q=>by obtain ⟨v,H',a,b,c⟩:=q; exact k u s' v H' a b c) fun _ _ x=>x
theorem thnA {X:Cx} {pins:List (Addr×Obj)} {σ:St} {Q:List V→Hp→Prop} {t:Sem (List Value)} {Q':List Value→Shared→Prop} {M:Model} {A:Around} {E:Value→Shared→Prop} {s:Shared} (h:wpAny M A t (AP X pins σ Q) E s) (k:∀ u s' v H',Inv X pins σ H' s'→Vals v u→Q v H'→Q' u s'):wpAny M A t Q' E s:=wpAny_mono h (fun u s' q=>by obtain ⟨v,H',a,b,c⟩:=q; exact k u s' v H' a b c) fun _ _ x=>x
theorem thnT {X:Cx} {pins:List (Addr×Obj)} {σ:St} {Q:Bool→Hp→Prop} {t:Sem Bool} {Q':Bool→Shared→Prop} {M:Model} {A:Around} {E:Value→Shared→Prop} {s:Shared} (h:wpAny M A t (TP X pins σ Q) E s) (k:∀ u s' H',Inv X pins σ H' s'→Q u H'→Q' u s'):wpAny M A t Q' E s:=wpAny_mono h (fun u s' q=>by obtain ⟨H',a,b⟩:=q; exact k u s' H' a b) fun _ _ x=>x
end L2
namespace L2
open PySem PySem.Spec PyProof.Rows
section
variable {X:Cx}
noncomputable def tVar (i:Nat):TE:=fun σ H Q=>Ex_1_2 (fun v=>σ[i]?=some (some v)) (fun v=>Q v H)
noncomputable def tC (v:V):TE:=fun _ H Q=>Q v H
theorem pe_var {i:Nat} {x:Str} {pos:Pos} (hN:X.N[i]?=some x) (hv:Vis X.env.scope x) (hd:(x == ("__debug__":Str))=false:=by decide) (hcd:(x == ("__classdict__":Str))=false:=by decide):PE X (.Name x pos) (tVar i):=by
 intro pins s σ H Q I h
 obtain ⟨v,e,h⟩:=h
 obtain ⟨m,hn,hl⟩:=I.loc
 obtain ⟨u,r,l⟩:=hl i x v hN e hv
 have fin:EP X pins σ Q u s:=⟨v,H,I,r,h⟩
 rcases l with ⟨hk,hm⟩ | ⟨hk,c,hc,hcell⟩
 ·exact wpAny_Name (wpAny_loadName_local I.ok.kind hk hn hm fin) hd
 ·rcases hk with hk | hk
  ·exact wpAny_Name (wpAny_loadName_cell I.ok.kind hk hc hcell fin) hd
  ·exact wpAny_Name (wpAny_loadName_free I.ok.kind hk hc hcell fin hcd) hd
theorem pe_int {i j pos}:PE X (.Constant (.int i) j pos) (tC (.int i)):=fun _ _ _ H _ I h=>wpAny_Constant_int ⟨.int i,H,I.tok _,⟨_,rfl⟩,h⟩
theorem pe_bl {b j pos}:PE X (.Constant (.bool b) j pos) (tC (.bl b)):=fun _ _ _ H _ I h=>Constant_bool ⟨.bl b,H,I,rfl,h⟩
theorem pe_non {j pos}:PE X (.Constant .none j pos) (tC .non):=fun _ _ _ H _ I h=>Constant_none ⟨.non,H,I,rfl,h⟩
theorem pe_str {x j pos}:PE X (.Constant (.str x) j pos) (tC (.str x)):=fun _ _ _ H _ I h=>Calls.Constant_str ⟨.str x,H,I.tok _,⟨_,rfl⟩,h⟩
noncomputable def Gl (X:Cx) (x:Str):Prop:=X.env.kindOf x=some .globalImplicit
theorem ld_glob {E:Value→Shared→Prop} {pins:List (Addr×Obj)} {s:Shared} {σ:St} {H:Hp} {x:Str} {u:Value} {pos:Pos} {Q:Value→Shared→Prop} (I:Inv X pins σ H s) (hg:Gl X x) (hm:X.mg x=some u) (h:Q u s)
  (hd:(x == ("__debug__":Str))=false:=by decide):wpAny (model X.prog X.w) X.A (eval (.Name x pos) X.env) Q E s :=
 Calls.Name_function_global I.ok.kind hg (Calls.loadGlobal_global (by rw [I.ok.glob]; exact I.mod.glob.keeps I.bk) hm h) hd
theorem ld_blt {E:Value→Shared→Prop} {pins:List (Addr×Obj)} {s:Shared} {σ:St} {H:Hp} {x:Str} {u:Value} {pos:Pos} {Q:Value→Shared→Prop} (I:Inv X pins σ H s) (hg:Gl X x) (hm:X.mg x=none) (hv:bootBuiltins x=some u) (h:Q u s)
  (hn:x≠"__name__":=by decide) (hd:(x == ("__debug__":Str))=false:=by decide):wpAny (model X.prog X.w) X.A (eval (.Name x pos) X.env) Q E s:=by
 obtain ⟨mb,h1,h2⟩:=I.mod.blt
 exact Calls.Name_function_global I.ok.kind hg (Calls.loadGlobal_builtin (by rw [I.ok.glob]; exact I.mod.glob.keeps I.bk) hm (by rw [I.ok.blt]; exact h1.keeps I.bk) ((h2 x hn).trans hv) h) hd
theorem pe_bltn {x:Str} {v:V} {u:Value} {pos:Pos} (hg:Gl X x) (hm:X.mg x=none) (hv:bootBuiltins x=some u) (r:RelV v u) (hn:x≠"__name__":=by decide) (hd:(x == ("__debug__":Str))=false:=by decide):PE X (.Name x pos) (tC v) :=
 fun _ _ _ H _ I h=>ld_blt I hg hm hv ⟨v,H,I,r,h⟩ hn hd
variable {a b:Expr} {ta tb:TE} {pos:Pos}
noncomputable def PC (X:Cx) (op:CmpOp) (a b:Expr) (t:TE):Prop :=
 ∀ (pins:List (Addr×Obj)) (s:Shared) (σ:St) (H:Hp) (Q:VK),Inv X pins σ H s→t σ H Q →
  wpAny (model X.prog X.w) X.A (eval a X.env) (fun v s₁=>wpAny (model X.prog X.w) X.A (eval b X.env) (fun u s₂=>wpAny (model X.prog X.w) X.A (compareOp op v u) (EP X pins σ Q) X.xe s₂) X.xe s₁) X.xe s
noncomputable def tB (t:TE):TT:=fun σ H Q=>t σ H fun x H1=>Ex_1_2 (fun c=>x=.bl c) (fun c=>Q c H1)
theorem pt_cmp {op:CmpOp} {t:TE} (h:PC X op a b t) (h1:behindInMarks op b=false:=by first | exact nobehind _ (by decide) (by decide) | rfl):PT X (.Compare a [op] [b] pos) (tB t):=by
 intro pins s σ H Q I hw
 refine wpAny_isTrue_Compare1 (thn (h pins s σ H _ I hw) fun v s1 h1=>thn h1 fun u s2 h2=>thn h2 fun c s3 ⟨x,H1,I1,r1,q1⟩=>?_) h1
 obtain ⟨d,rfl,q⟩:=q1
 cases r1
 exact wpAny_truthy_bool ⟨H1,I1,q⟩
theorem pt_val {e:Expr} {t:TE} (h:PE X e t) (he:∀ whole,isTrue e X.env whole=(do let v ← whole; standAt e.pos; holding [v] (truthy v)):=by intro _; rfl):PT X e (tB t):=by
 intro pins s σ H Q I hw
 refine isTrue_plain (thnE (h pins s σ H _ I hw) fun v s1 x H1 I1 r1 q1=>?_) (he _)
 obtain ⟨d,rfl,q⟩:=q1
 cases r1
 exact wpAny_truthy_bool ⟨H1,I1,q⟩
variable {tA tB':TT} {rest:List Expr}
noncomputable def tAnd (t u:TT):TT:=fun σ H Q=>t σ H fun c H1=>if c=true then u σ H1 Q else Q false H1
noncomputable def tOr (t u:TT):TT:=fun σ H Q=>t σ H fun c H1=>if c=true then Q true H1 else u σ H1 Q
noncomputable def tNot (t:TT):TT:=fun σ H Q=>t σ H fun c H1=>Q (!c) H1
theorem pw_and1 (ha:PT X a tA):PW X (.BoolOp .And [a] pos) tA:=by
 intro wh pins s σ H Q I h
 refine isTrue_and (thn (ha pins s σ H Q I h) fun c s1 e=>?_)
 cases c with
 | true=>exact isTrue_and_nil e
 | false=>exact e
theorem pw_or1 (ha:PT X a tA):PW X (.BoolOp .Or [a] pos) tA:=by
 intro wh pins s σ H Q I h
 refine isTrue_or (thn (ha pins s σ H Q I h) fun c s1 e=>?_)
 cases c with
 | false=>exact isTrue_or_nil e
 | true=>exact e
theorem pw_and (ha:PT X a tA) (hb:PW X (.BoolOp .And (b :: rest) pos) tB'):PW X (.BoolOp .And (a :: b :: rest) pos) (tAnd tA tB'):=by
 intro wh pins s σ H Q I h
 refine isTrue_and (thnT (ha pins s σ H _ I h) fun c s1 H1 I1 q1=>?_)
 cases c with
 | true=>exact hb wh pins s1 σ H1 Q I1 q1
 | false=>exact ⟨H1,I1,q1⟩
theorem pw_or (ha:PT X a tA) (hb:PW X (.BoolOp .Or (b :: rest) pos) tB'):PW X (.BoolOp .Or (a :: b :: rest) pos) (tOr tA tB'):=by
 intro wh pins s σ H Q I h
 refine isTrue_or (thnT (ha pins s σ H _ I h) fun c s1 H1 I1 q1=>?_)
 cases c with
 | true=>exact ⟨H1,I1,q1⟩
 | false=>exact hb wh pins s1 σ H1 Q I1 q1
theorem pt_not (ha:PT X a tA):PT X (.UnaryOp .Not a pos) (tNot tA):=by
 intro pins s σ H Q I h
 exact isTrue_not (ha pins s σ H (fun c H1=>Q (!c) H1) I h)
noncomputable def tAndV (ta tb:TE):TE:=fun σ H Q=>ta σ H fun x H1=>∃ c,x=.bl c∧if c=true then tb σ H1 Q else Q (.bl false) H1
noncomputable def tNotV (ta:TE):TE:=fun σ H Q=>ta σ H fun x H1=>Ex_1_2 (fun c=>x=.bl c) (fun c=>Q (.bl (!c)) H1)
theorem pe_one {op} {t:TE} (h:PE X a t):PE X (.BoolOp op [a] pos) t:=fun pins s σ H Q I hw=>BoolOp_one (h pins s σ H Q I hw)
theorem pe_and (ha:PE X a ta) (hb:PE X (.BoolOp .And (b :: rest) pos) tb):PE X (.BoolOp .And (a :: b :: rest) pos) (tAndV ta tb):=by
 intro pins s σ H Q I h
 refine BoolOp_and (thnE (ha pins s σ H _ I h) fun v s1 x H1 I1 r1 q1=>?_)
 obtain ⟨c,rfl,q1⟩:=q1
 cases r1
 refine wpAny_truthy_bool ?_
 cases c with
 | true=>exact hb pins s1 σ H1 Q I1 q1
 | false=>exact ⟨.bl false,H1,I1,rfl,q1⟩
theorem pe_not (ha:PE X a ta):PE X (.UnaryOp .Not a pos) (tNotV ta):=by
 intro pins s σ H Q I h
 refine UnaryOp_ (thnE (ha pins s σ H _ I h) fun v s1 x H1 I1 r1 q1=>?_)
 obtain ⟨c,rfl,q1⟩:=q1
 cases r1
 exact not_of (wpAny_truthy_bool ⟨.bl (!c),H1,I1,rfl,q1⟩)
noncomputable def tIf (t:TT) (ta tb:TE):TE:=fun σ H Q=>t σ H fun c H1=>if c=true then ta σ H1 Q else tb σ H1 Q
theorem pe_ifExp {c:Expr} (hc:PT X c tA) (ha:PE X a ta) (hb:PE X b tb):PE X (.IfExp c a b pos) (tIf tA ta tb):=by
 intro pins s σ H Q I h
 refine wpAny_IfExp (thnT (hc pins s σ H _ I h) fun d s1 H1 I1 q1=>?_)
 cases d with
 | true=>exact ha pins s1 σ H1 Q I1 q1
 | false=>exact hb pins s1 σ H1 Q I1 q1
end
end L2
namespace L2
open PySem PySem.Spec PyProof.Rows
noncomputable def SqL (K:PySem.W.Frag) (H:Hp) (a:Addr) (xs:List V):Prop :=
 Rd H a (.lst xs) ∨
  Ex_3_6 (fun (o:Obj) (its:Array Value) (n:Nat)=>K.lookup a=some o) (fun o its n=>o.cls=.type "list") (fun o its n=>o.dict=none) (fun o its n=>o.data=.seq its n) (fun o its n=>its.size≤sizeLine) (fun o its n=>Vals xs its.toList)
noncomputable def SqT (K:PySem.W.Frag) (H:Hp) (a:Addr) (xs:List V):Prop :=
 Rd H a (.tup xs) ∨
  Ex_3_5 (fun (o:Obj) (its:Array Value) (n:Nat)=>K.lookup a=some o) (fun o its n=>o.cls=.type "tuple") (fun o its n=>o.data=.seq its n) (fun o its n=>its.size≤sizeLine) (fun o its n=>Vals xs its.toList)
noncomputable def absV:Value→Option V
 | .none=>some .non
 | .bool b=>some (.bl b)
 | .int i _=>some (.int i)
 | .str x _=>some (.str x)
 | .bytes b _=>some (.byt b)
 | .float b _=>some (.flt b)
 | .ref a=>some (.ref a)
 | .type n=>some (.ty n)
 | _=>none
theorem RelV.abs {x:V} {u:Value} (r:RelV x u):absV u=some x:=by
 cases x with
 | non=>cases r; rfl
 | bl _=>cases r; rfl
 | int _=>obtain ⟨t,rfl⟩:=r; rfl
 | str _=>obtain ⟨t,rfl⟩:=r; rfl
 | byt _=>obtain ⟨t,rfl⟩:=r; rfl
 | flt _=>obtain ⟨t,rfl⟩:=r; rfl
 | ref _=>cases r; rfl
 | ty _=>cases r; rfl
theorem RelV.inj {x y:V} {u:Value} (r:RelV x u) (q:RelV y u):x=y:=Option.some.inj (r.abs.symm.trans q.abs)
theorem Vals.inj {xs ys:List V} {us:List Value} (h:Vals xs us) (g:Vals ys us):xs=ys:=by
 induction h generalizing ys with
 | nil=>cases g; rfl
 | cons r t ih=>cases g with
  | cons r' t'=>rw [r.inj r',ih t']
section
variable {X:Cx} {pins:List (Addr×Obj)} {σ:St} {H:Hp} {s:Shared} {a:Addr} {xs ys:List V}
theorem SqL.of {K:PySem.W.Frag} (h:H a=some (.lst xs)):SqL K H a xs:=.inl (.inl h)
theorem SqT.of {K:PySem.W.Frag} (h:H a=some (.tup xs)):SqT K H a xs:=.inl (.inl h)
theorem Inv.list (I:Inv X pins σ H s) (h:SqL X.K H a xs):∃ its:List Value,Vals xs its∧PlainL s.heap a its.toArray∧xs.length≤sizeLine:=by
 rcases h with h | ⟨o,its,n,hk,hc,hd,hs,hz,r⟩
 ·obtain ⟨z,its,n,r,e⟩:=h.ok I.hok
  exact ⟨its,r,⟨_,n,e,rfl,rfl,rfl⟩,z⟩
 ·refine ⟨its.toList,r,⟨o,n,I.kIn a o hk,hc,hd,by simpa using hs⟩,?_⟩
  have e:=r.length
  simp only [Array.length_toList] at e
  lia
theorem Inv.tuple (I:Inv X pins σ H s) (h:SqT X.K H a xs):∃ its:List Value,Vals xs its∧IsTup s.heap a its.toArray∧xs.length≤sizeLine:=by
 rcases h with h | ⟨o,its,n,hk,hc,hs,hz,r⟩
 ·obtain ⟨z,its,r,p⟩:=h.ok I.hok
  exact ⟨its,r,p,z⟩
 ·refine ⟨its.toList,r,⟨o,I.kIn a o hk,hc,n,by simpa using hs⟩,?_⟩
  have e:=r.length
  simp only [Array.length_toList] at e
  lia
theorem Inv.list_inj (I:Inv X pins σ H s) (h:SqL X.K H a xs) (h':SqL X.K H a ys):xs=ys:=by
 obtain ⟨its,r,⟨o,n,e,_,_,d⟩,_⟩:=I.list h
 obtain ⟨its',r',⟨o',n',e',_,_,d'⟩,_⟩:=I.list h'
 rw [e] at e'; cases e'
 rw [d] at d'
 injection d' with d1 _
 have:its=its':=by simpa using congrArg Array.toList d1
 subst this
 exact r.inj r'
theorem Inv.tuple_inj (I:Inv X pins σ H s) (h:SqT X.K H a xs) (h':SqT X.K H a ys):xs=ys:=by
 obtain ⟨its,r,⟨o,e,_,n,d⟩,_⟩:=I.tuple h
 obtain ⟨its',r',⟨o',e',_,n',d'⟩,_⟩:=I.tuple h'
 rw [e] at e'; cases e'
 rw [d] at d'
 injection d' with d1 _
 have:its=its':=by simpa using congrArg Array.toList d1
 subst this
 exact r.inj r'
end
noncomputable abbrev Cx.wish (X:Cx) (E:Value→Shared→Prop):Cx:={ X with xe:=E }
noncomputable abbrev Cx.nox (X:Cx):Cx:=X.wish fun _ _=>False
theorem Cx.Ok.wish {X:Cx} (ok:X.Ok) (E:Value→Shared→Prop):(X.wish E).Ok :=
 ⟨ok.mod,ok.kind,ok.glob,ok.blt,ok.above,ok.inj,ok.has,ok.cab,ok.hd,ok.frames,ok.stk,ok.exf,ok.bs,ok.bsz,ok.noex,ok.exfs,ok.funs,ok.frf⟩
theorem Cx.Ok.unwish {X:Cx} {E:Value→Shared→Prop} (ok:(X.wish E).Ok):X.Ok :=
 ⟨ok.mod,ok.kind,ok.glob,ok.blt,ok.above,ok.inj,ok.has,ok.cab,ok.hd,ok.frames,ok.stk,ok.exf,ok.bs,ok.bsz,ok.noex,ok.exfs,ok.funs,ok.frf⟩
section
variable {X:Cx} {pins:List (Addr×Obj)} {σ:St} {H:Hp} {s:Shared} {E:Value→Shared→Prop}
theorem Inv.wish (I:Inv X pins σ H s) (E:Value→Shared→Prop):Inv (X.wish E) pins σ H s:=⟨I.ok.wish E,I.os,I.bare,I.base,I.loc,I.cell,I.free,I.freeC,I.pin,I.hok,I.len⟩
theorem Inv.unwish (I:Inv (X.wish E) pins σ H s):Inv X pins σ H s:=⟨I.ok.unwish,I.os,I.bare,I.base,I.loc,I.cell,I.free,I.freeC,I.pin,I.hok,I.len⟩
theorem SP.unwish {D:Ends} {f:Flow} {s':Shared} (h:SP (X.wish E) pins D f s'):SP X pins D f s':=by
 cases f with
 | next=>obtain ⟨σ',H',I,q⟩:=h; exact ⟨σ',H',I.unwish,q⟩
 | brk=>obtain ⟨σ',H',I,q⟩:=h; exact ⟨σ',H',I.unwish,q⟩
 | cont=>obtain ⟨σ',H',I,q⟩:=h; exact ⟨σ',H',I.unwish,q⟩
 | ret u=>obtain ⟨v,σ',H',I,r,q⟩:=h; exact ⟨v,σ',H',I.unwish,r,q⟩
theorem PSs.nox {st:List Stmt} {t:TS} (h:PSs X.nox st t):PSs X st t:=fun pins s σ H D I hw =>
 wpAny_mono (h pins s σ H D (I.wish _) hw) (fun _ _ q=>q.unwish) fun _ _ z=>False.elim z
end
section
variable {X:Cx} {st:Stmt} {rest:List Stmt} {t u:TS} {e:Expr} {te:TE} {pos:Pos}
noncomputable def tNext:TS:=fun D σ H=>D.nx σ H
noncomputable def tSeq (t u:TS):TS:=fun D σ H=>t { D with nx:=u D } σ H
theorem pss_nil:PSs X [] tNext:=fun _ _ σ H _ I h=>wpAny_execs_nil ⟨σ,H,I,h⟩
theorem pss_cons (h1:PS X st t) (h2:PSs X rest u):PSs X (st :: rest) (tSeq t u):=by
 intro pins s σ H D I h
 refine wpAny_execs_cons (thn (h1 pins s σ H { D with nx:=u D } I h) fun f s1 q=>?_)
 cases f with
 | next =>
  obtain ⟨σ',H',I',q⟩:=q
  exact h2 pins s1 σ' H' D I' q
 | ret v=>exact q
 | brk=>exact q
 | cont=>exact q
theorem pss_one (h1:PS X st t):PSs X [st] t:=by
 intro pins s σ H D I h
 refine wpAny_execs_cons (thn (h1 pins s σ H D I h) fun f s1 q=>?_)
 cases f with
 | next=>exact wpAny_execs_nil q
 | ret v=>exact q
 | brk=>exact q
 | cont=>exact q
noncomputable def tCont:TS:=fun D σ H=>D.ct σ H
theorem ps_continue:PS X (.Continue pos) tCont:=fun _ _ σ H _ I h=>wpAny_Continue ⟨σ,H,I,h⟩
theorem Inv.quiet {pins:List (Addr×Obj)} {σ:St} {H:Hp} {s:Shared} (I:Inv X pins σ H s):interactive X.env=false:=by simp [interactive,I.ok.kind]
noncomputable def tDrop (te:TE):TS:=fun D σ H=>te σ H fun _ H1=>D.nx σ H1
theorem ps_expr (he:PE X e te) (hs:swapsWith e none pos.line X.env=pure false:=by rfl):PS X (.Expr e pos) (tDrop te):=by
 intro pins s σ H D I h
 exact wpAny_Expr_any (thnE (he pins s σ H _ I h) fun v s1 x H1 I1 r1 q1=>⟨σ,H1,I1,q1⟩) I.quiet hs
noncomputable def tRet (te:TE):TS:=fun D σ H=>te σ H D.rt
theorem ps_ret (he:PE X e te):PS X (.Return (some e) pos) (tRet te):=by
 intro pins s σ H D I h
 exact wpAny_Return_some (thnE (he pins s σ H _ I h) fun v s1 x H1 I1 r1 q1=>⟨x,σ,H1,I1,r1,q1⟩)
noncomputable def tIfS (c:TT) (t u:TS):TS:=fun D σ H=>c σ H fun b H1=>if b=true then t D σ H1 else u D σ H1
theorem ps_if {c:Expr} {a b:List Stmt} {tc:TT} (hc:PT X c tc) (ha:PSs X a t) (hb:PSs X b u):PS X (.If c a b pos) (tIfS tc t u):=by
 intro pins s σ H D I h
 refine wpAny_If (thnT (hc pins s σ H _ I h) fun d s1 H1 I1 q1=>?_)
 cases d with
 | true=>exact ha pins s1 σ H1 D I1 q1
 | false=>exact hb pins s1 σ H1 D I1 q1
noncomputable def tNever:TS:=fun _ _ _=>False
theorem ps_never:PS X st tNever:=fun _ _ _ _ _ _ h=>h.elim
end
noncomputable abbrev TG:=V→St→Hp→(St→Hp→Prop)→Prop
noncomputable abbrev TGs:=List V→St→Hp→(St→Hp→Prop)→Prop
noncomputable def PG (X:Cx) (target:Expr) (t:TG):Prop :=
 ∀ (pins:List (Addr×Obj)) (s:Shared) (σ:St) (H:Hp) (v:V) (u:Value) (Q:St→Hp→Prop),Inv X pins σ H s→RelV v u→t v σ H Q →
  wpAny (model X.prog X.w) X.A (assign target X.env u) (fun _ s'=>∃ σ' H',Inv X pins σ' H' s'∧Q σ' H') X.xe s
noncomputable def PGs (X:Cx) (ts:List Expr) (t:TGs):Prop :=
 ∀ (pins:List (Addr×Obj)) (s:Shared) (σ:St) (H:Hp) (vs:List V) (us:List Value) (Q:St→Hp→Prop),Inv X pins σ H s→Vals vs us→t vs σ H Q →
  wpAny (model X.prog X.w) X.A (assignInOrder ((assignEach ts X.env).map (·.2)) us) (fun _ s'=>∃ σ' H',Inv X pins σ' H' s'∧Q σ' H') X.xe s
noncomputable abbrev TSet:=V→V→V→Hp→(Hp→Prop)→Prop
noncomputable def PSet (X:Cx) (t:TSet):Prop :=
 ∀ (pins:List (Addr×Obj)) (s:Shared) (σ:St) (H:Hp) (o i v:V) (ov iv u:Value) (Q:Hp→Prop),Inv X pins σ H s→RelV o ov→RelV i iv→RelV v u→t o i v H Q →
  wpAny (model X.prog X.w) X.A (setItem ov iv u) (fun _ s'=>∃ H',Inv X pins σ H' s'∧Q H') X.xe s
noncomputable abbrev TIp:=V→V→Hp→VK→Prop
noncomputable def PIp (X:Cx) (op:Operator) (t:TIp):Prop :=
 ∀ (pins:List (Addr×Obj)) (s:Shared) (σ:St) (H:Hp) (x y:V) (v u:Value) (Q:VK),Inv X pins σ H s→RelV x v→RelV y u→t x y H Q →
  wpAny (model X.prog X.w) X.A (inplaceOp op v u) (EP X pins σ Q) X.xe s
section
variable {X:Cx} {pos:Pos}
noncomputable def gName (i:Nat):TG:=fun v σ H Q=>Q (σ.set i (some v)) H
theorem pg_name {i:Nat} {x:Str} (hN:X.N.Nodup) (hi:X.N[i]?=some x) (hx:Loc X.env.scope x) (hf:X.fn x=true∨X.env.scope.names.lookup x=some .local:=by first | exact .inl rfl | exact .inr rfl | assumption):PG X (.Name x pos) (gName i):=by
 intro pins s σ H v u Q I r h
 exact wpAny_assign_Name (store_ok I hN hi hx r (fun s' I'=>⟨_,H,I',h⟩) hf)
noncomputable def gNil:TGs:=fun vs σ H Q=>vs=[]∧Q σ H
noncomputable def gCons (t:TG) (u:TGs):TGs:=fun vs σ H Q=>Ex_2_2 (fun v r=>vs=v :: r) (fun v r=>t v σ H fun σ' H'=>u r σ' H' Q)
theorem pgs_nil:PGs X [] gNil:=by
 intro pins s σ H vs us Q I r h
 obtain ⟨e,h⟩:=h
 subst e
 cases r
 exact assignInOrder_nil ⟨σ,H,I,h⟩
theorem pgs_cons {e:Expr} {es:List Expr} {t:TG} {u:TGs} (h1:PG X e t) (h2:PGs X es u)
  (hs:(assignEach (e :: es) X.env).map (·.2)=assign e X.env :: (assignEach es X.env).map (·.2):=by rfl):PGs X (e :: es) (gCons t u):=by
 intro pins s σ H vs us Q I r h
 obtain ⟨v,vr,e1,h⟩:=h
 subst e1
 cases r with
 | cons r rr =>
  rw [hs]
  refine assignInOrder_cons (thn (h1 pins s σ H _ _ _ I r h) fun _ s1 ⟨σ1,H1,I1,q1⟩=>?_)
  exact h2 pins s1 σ1 H1 _ _ Q I1 rr q1
noncomputable def gTup (K:PySem.W.Frag) (n:Nat) (t:TGs):TG:=fun v σ H Q=>Ex_2_4 (fun a xs=>v=.ref a) (fun a xs=>SqT K H a xs) (fun a xs=>xs.length=n) (fun a xs=>t xs σ H Q)
theorem pg_tup {es:List Expr} {k:Nat} {t:TGs} {n:Nat} (hc:X.calm=true) (h:PGs X es t)
  (hn:(assignEach es X.env).length=n:=by rfl) (hst:(assignEach es X.env).findIdx? (·.1)=none:=by rfl):PG X (.Tuple es k pos) (gTup X.K n t):=by
 intro pins s σ H v u Q I r hw
 obtain ⟨a,xs,e1,hq,hl,hw⟩:=hw
 subst e1
 cases r
 obtain ⟨its,rv,ht,hz⟩:=I.tuple hq
 refine assign_Tuple_tuple (I.ok.hd hc) ht (by simp [hn,← hl,rv.length]) hst fun h' hx=>?_
 have I1:Inv X pins σ H { s with heap:=h' }:=I.kept (t':=s.toks) fun b o e=>hx b o (Nat.ne_of_lt (Heap.lt_size e)) e
 exact h pins _ σ H xs _ Q I1 (by simpa using rv) hw
noncomputable def gSub (to ti:TE) (t:TSet):TG:=fun v σ H Q=>to σ H fun o H1=>ti σ H1 fun i H2=>t o i v H2 fun H3=>Q σ H3
theorem pg_sub {o i:Expr} {to ti:TE} {t:TSet} (ho:PE X o to) (hi:PE X i ti) (hs:PSet X t)
  (ha:∀ v,assign (.Subscript o i pos) X.env v=(do
   let ov ← holding [v] (eval o X.env)
   let iv ← holding [v,ov] (eval i X.env)
   standAt pos
   holding [v,ov,iv] (setItem ov iv v)
   release [v,ov,iv] []):=by intro _; rfl):PG X (.Subscript o i pos) (gSub to ti t):=by
 intro pins s σ H v u Q I r h
 rw [ha]
 refine wpAny_bind (wpAny_holding (thnE (ho pins s σ H _ I h) fun ov s1 x H1 I1 r1 q1=>?_))
 refine wpAny_bind (wpAny_holding (thnE (hi pins s1 σ H1 _ I1 q1) fun iv s2 y H2 I2 r2 q2=>?_))
 refine wpAny_bind (wpAny_standAt (wpAny_bind (wpAny_holding (thn (hs pins s2 σ H2 x y v ov iv u _ I2 r1 r2 r q2) fun _ s3 ⟨H3,I3,q3⟩=>?_))))
 exact wpAny_release ⟨σ,H3,I3,q3⟩
noncomputable def tAsg (te:TE) (g:TG):TS:=fun D σ H=>te σ H fun x H1=>g x σ H1 D.nx
theorem ps_asg {tg e:Expr} {te:TE} {g:TG} (he:PE X e te) (hg:PG X tg g) (hs:swapsWithSole [tg] e pos.line X.env=pure false:=by rfl) (hw:swappedStores [tg] e X.env=pure none:=by rfl)
  (h1:(assignEach [tg] X.env).map (·.2)=[assign tg X.env]:=by rfl):PS X (.Assign [tg] e pos) (tAsg te g):=by
 intro pins s σ H D I h
 refine wpAny_Assign_stores (thnE (he pins s σ H _ I h) fun v s1 x H1 I1 r1 q1=>?_) hs hw
 rw [h1]
 exact thn (hg pins s1 σ H1 x v _ I1 r1 q1) fun _ s2 q=>q
theorem ps_set {i:Nat} {x:Str} {e:Expr} {te:TE} {pos':Pos} (hN:X.N.Nodup) (hi:X.N[i]?=some x) (hx:Loc X.env.scope x) (he:PE X e te) (hs:swapsWith e (some (.Name x pos')) pos.line X.env=pure false:=by rfl) (hf:X.fn x=true∨X.env.scope.names.lookup x=some .local:=by first | exact .inl rfl | exact .inr rfl | assumption) :
  PS X (.Assign [.Name x pos'] e pos) (tAsg te (gName i)):=by
 intro pins s σ H D I h
 refine wpAny_Assign_Name (thnE (he pins s σ H _ I h) fun v s1 y H1 I1 r1 q1=>?_) hs
 exact store_ok I1 hN hi hx r1 (fun s2 I2=>⟨_,H1,I2,q1⟩) hf
noncomputable def tAug (i:Nat) (te:TE) (ti:TIp):TS:=fun D σ H=>Ex_1_2 (fun x=>σ[i]?=some (some x)) (fun x=>te σ H fun y H1=>ti x y H1 fun z H2=>D.nx (σ.set i (some z)) H2)
theorem ps_aug {i:Nat} {x:Str} {e:Expr} {te:TE} {op:Operator} {ti:TIp} {pos':Pos} (hN:X.N.Nodup) (hi:X.N[i]?=some x) (hx:Loc X.env.scope x) (he:PE X e te) (ho:PIp X op ti) (hf:X.fn x=true∨X.env.scope.names.lookup x=some .local:=by first | exact .inl rfl | exact .inr rfl | assumption) :
  PS X (.AugAssign (.Name x pos') op e pos) (tAug i te ti):=by
 intro pins s σ H D I h
 obtain ⟨v,e1,h⟩:=h
 obtain ⟨m,hn,hl⟩:=I.loc
 have vis:Vis X.env.scope x:=by rcases hx with k | k; exact .inl k; exact .inr (.inl k)
 obtain ⟨u,r,l⟩:=hl i x v hi e1 vis
 refine wpAny_AugAssign_Name ?_
 have go:wpAny (model X.prog X.w) X.A (eval e X.env) (fun w s₂=>wpAny (model X.prog X.w) X.A (inplaceOp op u w) (fun r s₃=>wpAny (model X.prog X.w) X.A (storeName X.env x r) (fun _=>SP X pins D .next) X.xe s₃) X.xe s₂) X.xe s:=by
  refine thnE (he pins s σ H _ I h) fun w s1 y H1 I1 r1 q1=>?_
  refine thnE (ho pins s1 σ H1 v y u w _ I1 r r1 q1) fun z s2 zv H2 I2 r2 q2=>?_
  exact store_ok I2 hN hi hx r2 (fun s3 I3=>⟨_,H2,I3,q2⟩) hf
 rcases l with ⟨hk,hm⟩ | ⟨hk,c,hc,hcell⟩
 ·exact wpAny_loadName_local I.ok.kind hk hn hm go
 ·rcases hk with hk | hk
  ·exact wpAny_loadName_cell I.ok.kind hk hc hcell go
  ·rcases hx with k | k
   ·have:X.env.scope.names.lookup x=some .free:=hk
    rw [k] at this; cases this
   ·have:X.env.scope.names.lookup x=some .free:=hk
    rw [k] at this; cases this
noncomputable def ipI (f:Int→Int→Int):TIp:=fun x y H Q=>Ex_2_3 (fun i j=>x=.int i) (fun i j=>y=.int j) (fun i j=>Q (.int (f i j)) H)
theorem ip_add:PIp X .Add (ipI fun i j=>i + j):=by
 intro pins s σ H x y v u Q I r1 r2 h
 obtain ⟨i,j,e1,e2,q⟩:=h
 subst e1; subst e2
 obtain ⟨t,rfl⟩:=r1
 obtain ⟨t',rfl⟩:=r2
 exact iadd_int ⟨.int _,H,I.tok _,⟨_,rfl⟩,q⟩
end
section
variable {X:Cx} {pos:Pos}
end
structure It where
 go:Nat→Hp→Prop
 yld:Nat→Hp→V→Hp→Prop
 stop:Nat→Hp→Prop
noncomputable def FpOk (X:Cx) (pins:List (Addr×Obj)) (H:Hp) (b:Addr):Prop :=
 H b=none∧b≠X.env.locals∧b ∉ X.fs∧(b∈X.ex∨X.s₀.heap.objs.size≤b)∧(∀ x c,X.env.cells.lookup x=some c→c≠b)∧∀ p∈X.pn ++ pins,p.1≠b
theorem Inv.fpOk {X:Cx} {pins:List (Addr×Obj)} {σ:St} {H H':Hp} {s:Shared} {b:Addr} (I:Inv X pins σ H s) (hb:s.heap.objs.size≤b) (hn:H' b=none):FpOk X pins H' b:=by
 refine ⟨hn,Nat.ne_of_gt (Nat.lt_of_lt_of_le I.lt hb),I.nofs hb,.inr (Nat.le_trans I.sz hb),fun x c e z=>?_,fun p hp z=>?_⟩
 ·obtain ⟨v,q⟩:=I.cell x c e
  exact absurd (Nat.lt_of_lt_of_le q.lt (by rw [z]; exact hb)) (Nat.lt_irrefl _)
 ·exact absurd (Nat.lt_of_lt_of_le (Heap.lt_size (I.pin p hp).1) (by rw [z]; exact hb)) (Nat.lt_irrefl _)
structure Turn (P:Program) (w:World) (K:PySem.W.Frag) (tg:Expr) (J:It) (fp:List Addr) (it:Addr) (tn:Nat→Heap→Prop):Prop where
 mem:it∈fp
 obj:∀ i h,tn i h→∀ b∈fp,∃ o,h.get? b=some o∧∀ v,o.data≠.cell v
 keep:∀ i h h',tn i h→(∀ b∈fp,∀ o,h.get? b=some o→h'.get? b=some o)→tn i h'
 item:∀ (X:Cx),X.prog=P→X.w=w→X.K=K→X.calm=true→∀ (i:Nat) (pins:List (Addr×Obj)) (s:Shared) (σ:St) (H:Hp) (E:Value→Shared→Prop),Inv X pins σ H s→(∀ b∈fp,FpOk X pins H b)→tn i s.heap→J.go i H →
  wpAny (model P w) X.A (pyNext (.ref it)) (fun r s1=>∃ u,r=some u ∧
   wpAny (model P w) X.A (letOwnedTupleGo tg (.ref it) u) (fun _ s2=>Ex_2_5 (fun x H'=>Inv X pins σ H' s2) (fun x H'=>RelV x u) (fun x H'=>J.yld i H x H') (fun x H'=>tn (i + 1) s2.heap) (fun x H'=>∀ b∈fp,H' b=none)) E s1) E s
 done:∀ (X:Cx),X.prog=P→X.w=w→X.K=K→X.calm=true→∀ (i:Nat) (pins:List (Addr×Obj)) (s:Shared) (σ:St) (H:Hp) (E:Value→Shared→Prop),Inv X pins σ H s→(∀ b∈fp,FpOk X pins H b)→tn i s.heap→J.stop i H →
  wpAny (model P w) X.A (pyNext (.ref it)) (fun r s1=>r=none∧Inv X pins σ H s1) E s
 self:∀ (A:Around) (i:Nat) (s:Shared) (Q:Value→Shared→Prop) (E:Value→Shared→Prop),tn i s.heap→Q (.ref it) s→wpAny (model P w) A (pyIter (.ref it)) Q E s
noncomputable abbrev TI:=St→Hp→(It→Hp→Prop)→Prop
noncomputable def PIE (X:Cx) (pins:List (Addr×Obj)) (σ:St) (tg:Expr) (R:It→Hp→Prop) (itv:Value) (s2:Shared):Prop :=
 Ex_5_6 (fun (it:Addr) (fp:List Addr) (tn:Nat→Heap→Prop) (J:It) (H':Hp)=>itv=.ref it) (fun it fp tn J H'=>Inv X pins σ H' s2) (fun it fp tn J H'=>Turn X.prog X.w X.K tg J fp it tn) (fun it fp tn J H'=>tn 0 s2.heap) (fun it fp tn J H'=>(∀ b∈fp,FpOk X pins H' b)) (fun it fp tn J H'=>R J H')
noncomputable def PI (X:Cx) (tg iter:Expr) (wi:TI):Prop :=
 ∀ (pins:List (Addr×Obj)) (s:Shared) (σ:St) (H:Hp) (R:It→Hp→Prop),Inv X pins σ H s→wi σ H R →
  wpAny (model X.prog X.w) X.A (eval iter X.env) (fun v s1=>wpAny (model X.prog X.w) X.A (pyIter v) (PIE X pins σ tg R) X.xe s1) X.xe s
theorem go_of {M : Model} {A : Around} {E : Value → Shared → Prop} {s : Shared} {tg : Expr} {it : Addr} {u : Value} {o : Obj} {n : String} {vs : Array Value} {Q : Unit → Shared → Prop} (ho : s.heap.get? it = some o) (hc : o.cls = .type n) (hd : o.data = .fields vs)
    (hn : ["enumerate", "zip", "dict_itemiterator", "dict_reverseitemiterator", "odict_iterator", "itertools.zip_longest", "itertools.pairwise"].contains n = false) (hQ : Q () s) : wpAny M A (letOwnedTupleGo tg (.ref it) u) Q E s := by
  unfold letOwnedTupleGo
  cases tg <;> first
    | exact wpAny_pure hQ
    | (cases u <;> first
        | exact wpAny_pure hQ
        | (refine wpAny_bind (wpAny_load ho ?_)
           rw [hc, hd]
           show wpAny M A (if (["enumerate", "zip", "dict_itemiterator", "dict_reverseitemiterator", "odict_iterator", "itertools.zip_longest", "itertools.pairwise"].contains n && vs[0]? == some (rawInt _)) = true then _ else _) Q E s
           rw [if_neg (by intro h; rw [hn, Bool.false_and] at h; cases h)]
           exact wpAny_pure hQ))

noncomputable def Itl (K:PySem.W.Frag) (a:Addr):It :=
 ⟨fun i H=>Ex_2_2 (fun xs x=>SqL K H a xs) (fun xs x=>xs[i]?=some x),fun i H x H'=>H'=H∧∀ xs,SqL K H a xs→xs[i]?=some x,fun i H=>∃ xs,SqL K H a xs∧xs.length≤i⟩
noncomputable def Itr (lo:Int) (n:Nat):It:=⟨fun i _=>i < n,fun i H x H'=>H'=H∧x=.int (lo + i),fun i _=>n≤i⟩
theorem turn_list {P:Program} {w:World} {K:PySem.W.Frag} {tg:Expr} (a it:Addr):Turn P w K tg (Itl K a) [it] it (fun i h=>h.IsListIter it a i) where
 mem:=by simp
 obj:=fun i h st b hb=>by
  have e:b=it:=by simpa using hb
  subst e
  obtain ⟨o,e,c,d⟩:=st
  exact ⟨o,e,fun v z=>by rw [d] at z; cases z⟩
 keep:=fun i h h' st k=>st.at fun o e=>k it (by simp) o e
 item:=by
  intro X hP hw hK hc i pins s σ H E I hf st hg
  subst hP hw hK
  obtain ⟨xs,x,hq,hx⟩:=hg
  obtain ⟨its,rv,p,hz⟩:=I.list hq
  obtain ⟨u,hu,ru⟩:=rv.get hx
  obtain ⟨f0,f1,f2,f3,f4,f5⟩:=hf it (by simp)
  refine wpAny_pyNext_list_item st p.isList (x:=u) (by simpa using hu) fun h' st' sb=>?_
  have I1:Inv X pins σ H { s with heap:=h' }:=I.turned (t':=s.toks) (fun b o hb e=>(sb.2 b hb).trans e) f0 f1 f3 f4 f5
  obtain ⟨o,e,c,d⟩:=id st'
  exact ⟨u,rfl,go_of (s:={ s with heap:=h' }) e c d (by decide) ⟨x,H,I1,ru,⟨rfl,fun ys hy=>by rw [I.list_inj hy hq]; exact hx⟩,st',fun b hb=>(hf b hb).1⟩⟩
 done:=by
  intro X hP hw hK hc i pins s σ H E I hf st hg
  subst hP hw hK
  obtain ⟨xs,hq,hx⟩:=hg
  obtain ⟨its,rv,p,hz⟩:=I.list hq
  obtain ⟨f0,f1,f2,f3,f4,f5⟩:=hf it (by simp)
  have hl:=rv.length
  exact wpAny_pyNext_list_end (I.ok.hd hc) st p.isList (by simp; lia) fun h' eb=>⟨rfl,I.turned (t':=s.toks) (fun b o hb e=>eb b o hb e) f0 f1 f3 f4 f5⟩
 self:=fun _ _ _ _ _ st h=>wpAny_pyIter_listiter st h
theorem turn_range {P:Program} {w:World} {K:PySem.W.Frag} {tg:Expr} (it:Addr) (lo:Int) (n:Nat):Turn P w K tg (Itr lo n) [it] it (fun i h=>IsRangeIter h it (lo + (i:Nat) * 1) ((n:Int) - (i:Nat)) 1) where
 mem:=by simp
 obj:=fun i h st b hb=>by
  have e:b=it:=by simpa using hb
  subst e
  exact ⟨_,st,fun v z=>by
   have z':Data.fields _=Data.cell v:=z
   cases z'⟩
 keep:=fun i h h' st k=>k it (by simp) _ st
 item:=by
  intro X hP hw hK hc i pins s σ H E I hf st hg
  subst hP hw hK
  obtain ⟨f0,f1,f2,f3,f4,f5⟩:=hf it (by simp)
  have W:=Walks.range (prog:=X.prog) (w:=X.w) (I.ok.hd hc) it lo 1 n
  refine W.item i s _ _ hg st fun v h' tk hv st' kk=>?_
  obtain ⟨t,rfl⟩:=hv
  have I1:Inv X pins σ H { s with heap:=h',toks:=tk }:=I.turned (fun b o hb e=>kk b o (by simpa using hb) e) f0 f1 f3 f4 f5
  refine ⟨_,rfl,go_of (s:={ s with heap:=h',toks:=tk }) (n:="range_iterator") st' rfl rfl (by decide) ⟨.int (lo + i),H,I1,⟨t,?_⟩,⟨rfl,rfl⟩,st',fun b hb=>(hf b hb).1⟩⟩
  rw [Int.mul_one]
 done:=by
  intro X hP hw hK hc i pins s σ H E I hf st hg
  subst hP hw hK
  obtain ⟨f0,f1,f2,f3,f4,f5⟩:=hf it (by simp)
  exact wpAny_pyNext_range_end (I.ok.hd hc) st (by have:n≤i:=hg; lia) fun h' eb=>⟨rfl,I.turned (t':=s.toks) (fun b o hb e=>eb b o hb e) f0 f1 f3 f4 f5⟩
 self:=fun _ _ _ _ _ st h=>wpAny_pyIter_rangeiter st h
end L2
namespace L2
open PySem PySem.Spec PyProof.Rows
section
variable {X:Cx} {tg:Expr}
noncomputable def iList (K:PySem.W.Frag) (tl:TE):TI:=fun σ H R=>tl σ H fun x H1=>Ex_1_3 (fun a=>x=.ref a) (fun a=>(Ex_1_1 (fun xs=>SqL K H1 a xs))) (fun a=>R (Itl K a) H1)
theorem pi_list {l:Expr} {tl:TE} (hl:PE X l tl):PI X tg l (iList X.K tl):=by
 intro pins s σ H R I h
 refine thnE (hl pins s σ H _ I h) fun v s1 x H1 I1 r1 q1=>?_
 obtain ⟨a,e,⟨xs,hq⟩,q⟩:=q1
 subst e
 cases r1
 obtain ⟨its,rv,p,hz⟩:=I1.list hq
 refine wpAny_pyIter_list p.isList ?_
 refine ⟨s1.heap.objs.size,[s1.heap.objs.size],_,_,H1,rfl,I1.kept (t':=s1.toks) fun b o e=>Heap.get?_push_of_some _ e,turn_list a _,⟨_,Heap.get?_push_size _ rfl,rfl,rfl⟩,fun b hb=>?_,q⟩
 have e:b=s1.heap.objs.size:=by simpa using hb
 subst e
 exact I1.fpOk (Nat.le_refl _) (I1.hok.fresh (Nat.le_refl _))
theorem range_it {pins:List (Addr×Obj)} {σ:St} {H:Hp} {s:Shared} {R:It→Hp→Prop} {E:Value→Shared→Prop} {lo hi:Int} {t u v:Tok} {tk:Nat} (I:Inv X pins σ H s) (h1:-(2 ^ 62)≤lo) (h2:lo < 2 ^ 62) (h3:-(2 ^ 62)≤hi) (h4:hi < 2 ^ 62)
  (q:R (Itr lo (hi - lo).toNat) H):wpAny (model X.prog X.w) X.A (pyIter (.ref s.heap.objs.size)) (PIE X pins σ tg R) E { s with heap:=s.heap.push { cls:=.type "range",data:=.fields #[.int lo t,.int hi u,.int 1 v] },toks:=tk }:=by
 refine wpAny_pyIter_range (IsRange.new ..) (small_one h1 h2 h3 h4) ?_
 have I1:Inv X pins σ H { s with heap:=s.heap.push { cls:=.type "range",data:=.fields #[.int lo t,.int hi u,.int 1 v] },toks:=tk }:=I.kept fun b o e=>Heap.get?_push_of_some _ e
 refine ⟨(s.heap.push { cls:=.type "range",data:=.fields #[.int lo t,.int hi u,.int 1 v] }).objs.size,[(s.heap.push { cls:=.type "range",data:=.fields #[.int lo t,.int hi u,.int 1 v] }).objs.size],_,_,H,rfl,
  I1.kept (t':=tk) fun b o e=>Heap.get?_push_of_some _ e,turn_range _ lo (hi - lo).toNat,?_,fun b hb=>?_,q⟩
 ·have e1:lo + ((0:Nat):Int) * 1=lo:=by simp
  have e2:(((hi - lo).toNat:Nat):Int) - ((0:Nat):Int)=Builtin.Range.rangeSize lo hi 1:=by rw [rangeSize_one]; split <;> lia
  show IsRangeIter _ _ (lo + ((0:Nat):Int) * 1) ((((hi - lo).toNat:Nat):Int) - ((0:Nat):Int)) 1
  rw [e1,e2]
  exact Heap.get?_push_size _ rfl
 ·have e:b=(s.heap.push { cls:=.type "range",data:=.fields #[.int lo t,.int hi u,.int 1 v] }).objs.size:=by simpa using hb
  subst e
  exact I1.fpOk (Nat.le_refl _) (I1.hok.fresh (Nat.le_refl _))
noncomputable def iRng1 (ta:TA):TI:=fun σ H R=>ta σ H fun vs H1=>Ex_1_4 (fun (j:Int)=>vs=[.int j]) (fun j=>-(2 ^ 62)≤j) (fun j=>j < 2 ^ 62) (fun j=>R (Itr 0 j.toNat) H1)
theorem pi_range1 {a:Expr} {ta:TA} {p pos:Pos} (hg:Gl X "range") (hm:X.mg "range"=none) (ha:PA X [a] ta) (hs:starEach [a] X.env=[(false,eval a X.env)]:=by rfl):PI X tg (.Call (.Name "range" p) [a] [] pos) (iRng1 ta):=by
 intro pins s σ H R I h
 refine Call_ (ld_blt I hg hm boot_range (PyProof.Rows.callWith_type1 (thnA (ha pos pins s σ H _ I h) fun us s1 vs H1 I1 r1 q1=>?_) hs rfl))
 obtain ⟨j,e,q1,q2,q⟩:=q1
 subst e
 cases r1 with
 | cons r rr =>
  cases rr
  obtain ⟨t,rfl⟩:=r
  exact call_range_1 (range_it I1 (by lia) (by lia) q1 q2 (by simpa using q))
noncomputable def tFor (wi:TI) (g:TG) (tb:TS):TS:=fun D σ H=>wi σ H fun J H1=>∃ W:Nat→Nat→St→Hp→Prop,(∃ m,W 0 m σ H1)∧∀ i m σ H,W i m σ H →
 (J.stop i H∧D.nx σ H)∨(J.go i H∧∃ N:St→Hp→Prop,(∀ σ' H',N σ' H'→∃ m',m' < m∧W (i + 1) m' σ' H')∧∀ x H',J.yld i H x H'→g x σ H' fun σ2 H2=>tb { D with nx:=N,ct:=N,bk:=D.nx } σ2 H2)
noncomputable def pinsAt (fp:List Addr) (h:Heap):List (Addr×Obj):=fp.filterMap fun b=>(h.get? b).map fun o=>(b,o)
theorem mem_pinsAt {fp:List Addr} {h:Heap} {b:Addr} {o:Obj} (hb:b∈fp) (e:h.get? b=some o):(b,o)∈pinsAt fp h:=List.mem_filterMap.mpr ⟨b,hb,by rw [e]; rfl⟩
theorem of_pinsAt {fp:List Addr} {h:Heap} {p:Addr×Obj} (hp:p∈pinsAt fp h):p.1∈fp∧h.get? p.1=some p.2:=by
 obtain ⟨b,hb,e⟩:=List.mem_filterMap.mp hp
 cases q:h.get? b with
 | none=>rw [q] at e; cases e
 | some o =>
  rw [q] at e
  have e':(b,o)=p:=Option.some.inj e
  subst e'
  exact ⟨hb,q⟩
theorem Inv.pinned {pins:List (Addr×Obj)} {σ:St} {H:Hp} {s:Shared} {fp:List Addr} (I:Inv X pins σ H s) (hf:∀ b∈fp,FpOk X pins H b) (ho:∀ b∈fp,∃ o,s.heap.get? b=some o∧∀ v,o.data≠.cell v):Inv X (pins ++ pinsAt fp s.heap) σ H s :=
 I.pins_of fun p hp=>(List.mem_append.mp hp).elim (fun z=>I.pin p (List.mem_append_right _ z)) fun z=>by
  obtain ⟨hb,e⟩:=of_pinsAt z
  obtain ⟨f0,f1,f2,_⟩:=hf p.1 hb
  obtain ⟨o,e',d⟩:=ho p.1 hb
  rw [e] at e'; cases e'
  exact ⟨e,f0,f1,f2,d⟩
theorem Inv.unpinned {pins pl:List (Addr×Obj)} {σ:St} {H:Hp} {s:Shared} (I:Inv X (pins ++ pl) σ H s):Inv X pins σ H s:=I.pins_of fun p hp=>I.pin p (List.mem_append_right _ (List.mem_append_left _ hp))
theorem ps_for {iter:Expr} {body:List Stmt} {wi:TI} {g:TG} {tb:TS} {pos:Pos} (hp:PassesOwn (model X.prog X.w) X.A X.env X.xe) (hc:X.calm=true) (hi:PI X tg iter wi) (hg:PG X tg g) (hb:PSs X body tb)
  (hs:∀ x,foldedSetIterable iter X.env x=pure x:=by intro _; rfl):PS X (.For tg iter body [] pos) (tFor wi g tb):=by
 intro pins s σ H D I h
 refine wpAny_For (thn (hi pins s σ H _ I h) fun v s1 h1=>thn h1 fun itv s2 h2=>?_) hs
 obtain ⟨it,fp,tn,J,H2,e,I2,T,st2,f2,W,⟨m0,w0⟩,turn⟩:=h2
 subst e
 have stat:∀ {H':Hp},(∀ b∈fp,H' b=none)→∀ b∈fp,FpOk X pins H' b:=fun hn b hb=>⟨hn b hb,(f2 b hb).2⟩
 refine codeAny_forLoop_any (fun n s'=>∃ i σ' H',Inv X pins σ' H' s'∧tn i s'.heap∧(∀ b∈fp,H' b=none)∧W i n σ' H') ?_ m0 ⟨0,σ,H2,I2,st2,fun b hb=>(f2 b hb).1,w0⟩
 rintro n s3 ⟨i,σ3,H3,I3,st3,fr3,w3⟩
 rcases turn i n σ3 H3 w3 with ⟨stop,qn⟩ | ⟨go,N,hN,step⟩
 ·refine wpAny_passesOwn hp (thn (T.done X rfl rfl rfl hc i pins s3 σ3 H3 X.xe I3 (stat fr3) st3 stop) fun r s4 ⟨hr,I4⟩=>?_)
  subst hr
  exact wpAny_execs_nil ⟨σ3,H3,I4,qn⟩
 ·refine wpAny_passesOwn hp (thn (T.item X rfl rfl rfl hc i pins s3 σ3 H3 X.xe I3 (stat fr3) st3 go) fun r s4 ⟨u,hr,h4⟩=>?_)
  subst hr
  refine wpAny_passesOwn hp (thn h4 fun _ s5 ⟨x,H5,I5,r5,y5,st5,fr5⟩=>?_)
  have I5':=I5.pinned (stat fr5) (T.obj _ _ st5)
  refine wpAny_passesOwn hp (thn (hg _ s5 σ3 H5 x u _ I5' r5 (step x H5 y5)) fun _ s6 ⟨σ6,H6,I6,q6⟩=>?_)
  refine wpAny_passesOwn hp (thn (hb _ s6 σ6 H6 _ I6 q6) fun f s7 q7=>?_)
  have again:∀ {σ7:St} {H7:Hp},Inv X (pins ++ pinsAt fp s5.heap) σ7 H7 s7→N σ7 H7→∃ m,m < n∧∃ i σ' H',Inv X pins σ' H' s7∧tn i s7.heap∧(∀ b∈fp,H' b=none)∧W i m σ' H':=fun {σ7 H7} I7 n7=>by
   obtain ⟨m',hm,w7⟩:=hN σ7 H7 n7
   refine ⟨m',hm,i + 1,σ7,H7,I7.unpinned,T.keep _ _ _ st5 fun b hb o e=>(I7.pin (b,o) (List.mem_append_right _ (List.mem_append_right _ (mem_pinsAt hb e)))).1,fun b hb=>?_,w7⟩
   obtain ⟨o,e,d⟩:=T.obj _ _ st5 b hb
   exact (I7.pin (b,o) (List.mem_append_right _ (List.mem_append_right _ (mem_pinsAt hb e)))).2.1
  cases f with
  | next=>obtain ⟨σ7,H7,I7,n7⟩:=q7; exact again I7 n7
  | cont=>obtain ⟨σ7,H7,I7,n7⟩:=q7; exact again I7 n7
  | brk=>obtain ⟨σ7,H7,I7,q7⟩:=q7; exact ⟨σ7,H7,I7.unpinned,q7⟩
  | ret v=>obtain ⟨x7,σ7,H7,I7,r7,q7⟩:=q7; exact ⟨x7,σ7,H7,I7.unpinned,r7,q7⟩
end
theorem for_list {K:PySem.W.Frag} {a:Addr} {xs:List V} {g:TG} {tb:TS} {D:Ends} {σ:St} {H:Hp} (Pv:Nat→St→Hp→Prop) (h0:Pv 0 σ H) (hl:∀ i σ H,i≤xs.length→Pv i σ H→SqL K H a xs)
  (hs:∀ i x σ H,xs[i]?=some x→Pv i σ H→g x σ H fun σ2 H2=>tb { D with nx:=Pv (i + 1),ct:=Pv (i + 1),bk:=D.nx } σ2 H2) (hd:∀ σ H,Pv xs.length σ H→D.nx σ H) :
  ∃ W:Nat→Nat→St→Hp→Prop,(∃ m,W 0 m σ H)∧∀ i m σ H,W i m σ H →
   ((Itl K a).stop i H∧D.nx σ H)∨((Itl K a).go i H∧∃ N:St→Hp→Prop,(∀ σ' H',N σ' H'→∃ m',m' < m∧W (i + 1) m' σ' H')∧∀ x H',(Itl K a).yld i H x H'→g x σ H' fun σ2 H2=>tb { D with nx:=N,ct:=N,bk:=D.nx } σ2 H2):=by
 refine ⟨fun i m σ H=>m=xs.length - i∧i≤xs.length∧Pv i σ H,⟨xs.length,by simp,Nat.zero_le _,h0⟩,?_⟩
 rintro i m σ H ⟨rfl,hi,p⟩
 have q:=hl i σ H hi p
 by_cases hlt:i < xs.length
 ·refine .inr ⟨⟨xs,xs[i],q,by simp [hlt]⟩,Pv (i + 1),fun σ' H' p'=>⟨xs.length - (i + 1),by lia,rfl,hlt,p'⟩,fun x H' y=>?_⟩
  obtain ⟨e,y⟩:=y
  subst e
  exact hs i x σ _ (y xs q) p
 ·have e:i=xs.length:=by lia
  subst e
  exact .inl ⟨⟨xs,q,Nat.le_refl _⟩,hd σ H p⟩
theorem for_range {lo:Int} {n:Nat} {g:TG} {tb:TS} {D:Ends} {σ:St} {H:Hp} (Pv:Nat→St→Hp→Prop) (h0:Pv 0 σ H)
  (hs:∀ i σ H,i < n→Pv i σ H→g (.int (lo + i)) σ H fun σ2 H2=>tb { D with nx:=Pv (i + 1),ct:=Pv (i + 1),bk:=D.nx } σ2 H2) (hd:∀ σ H,Pv n σ H→D.nx σ H) :
  ∃ W:Nat→Nat→St→Hp→Prop,(∃ m,W 0 m σ H)∧∀ i m σ H,W i m σ H →
   ((Itr lo n).stop i H∧D.nx σ H)∨((Itr lo n).go i H∧∃ N:St→Hp→Prop,(∀ σ' H',N σ' H'→∃ m',m' < m∧W (i + 1) m' σ' H')∧∀ x H',(Itr lo n).yld i H x H'→g x σ H' fun σ2 H2=>tb { D with nx:=N,ct:=N,bk:=D.nx } σ2 H2):=by
 refine ⟨fun i m σ H=>m=n - i∧i≤n∧Pv i σ H,⟨n,by simp,Nat.zero_le _,h0⟩,?_⟩
 rintro i m σ H ⟨rfl,hi,p⟩
 by_cases hlt:i < n
 ·refine .inr ⟨hlt,Pv (i + 1),fun σ' H' p'=>⟨n - (i + 1),by lia,rfl,hlt,p'⟩,fun x H' y=>?_⟩
  obtain ⟨e,y⟩:=y
  subst e y
  exact hs i σ _ hlt p
 ·have e:i=n:=by lia
  subst e
  exact .inl ⟨Nat.le_refl _,hd σ H p⟩
end L2
namespace L2
open PySem PySem.Spec PyProof.Rows
noncomputable abbrev R2:=V→V→Hp→VK→Prop
noncomputable def OpR (X:Cx) (f:Value→Value→Sem Value) (r:R2):Prop :=
 ∀ (pins:List (Addr×Obj)) (s:Shared) (σ:St) (H:Hp) (x y:V) (v u:Value) (Q:VK),Inv X pins σ H s→RelV x v→RelV y u→r x y H Q →
  wpAny (model X.prog X.w) X.A (f v u) (EP X pins σ Q) X.xe s
noncomputable def UnR (X:Cx) (f:Value→Sem Value) (r:V→Hp→VK→Prop):Prop :=
 ∀ (pins:List (Addr×Obj)) (s:Shared) (σ:St) (H:Hp) (x:V) (v:Value) (Q:VK),Inv X pins σ H s→RelV x v→r x H Q →
  wpAny (model X.prog X.w) X.A (f v) (EP X pins σ Q) X.xe s
noncomputable def CallR (X:Cx) (f:Value) (r:List V→Hp→VK→Prop):Prop :=
 ∀ (pins:List (Addr×Obj)) (s:Shared) (σ:St) (H:Hp) (xs:List V) (us:List Value) (Q:VK),Inv X pins σ H s→Vals xs us→r xs H Q →
  wpAny (model X.prog X.w) X.A (call f us) (EP X pins σ Q) X.xe s
noncomputable def tOp (r:R2) (ta tb:TE):TE:=fun σ H Q=>ta σ H fun x H1=>tb σ H1 fun y H2=>r x y H2 Q
noncomputable def tUn (r:V→Hp→VK→Prop) (ta:TE):TE:=fun σ H Q=>ta σ H fun x H1=>r x H1 Q
noncomputable def rI (C:Int→Int→Prop) (g:Int→Int→V):R2:=fun x y H Q=>Ex_2_4 (fun i j=>x=.int i) (fun i j=>y=.int j) (fun i j=>C i j) (fun i j=>Q (g i j) H)
noncomputable def rI0 (g:Int→Int→V):R2:=fun x y H Q=>Ex_2_3 (fun i j=>x=.int i) (fun i j=>y=.int j) (fun i j=>Q (g i j) H)
noncomputable def rU (g:Int→V):V→Hp→VK→Prop:=fun x H Q=>Ex_1_2 (fun i=>x=.int i) (fun i=>Q (g i) H)
section
variable {X:Cx} {a b c:Expr} {ta tb tc:TE} {pos:Pos}
theorem binT (ha:PE X a ta) (hb:PE X b tb) {pins:List (Addr×Obj)} {s:Shared} {σ:St} {H:Hp} {R:V→V→Hp→Prop} (I:Inv X pins σ H s)
  (h:ta σ H fun x H1=>tb σ H1 fun y H2=>R x y H2) {Q:Value→Shared→Prop} {f:Value→Value→Sem Value}
  (hf:∀ v u s2 x y H2,Inv X pins σ H2 s2→RelV x v→RelV y u→R x y H2→wpAny (model X.prog X.w) X.A (f v u) Q X.xe s2) :
  wpAny (model X.prog X.w) X.A (eval a X.env) (fun v s₁=>wpAny (model X.prog X.w) X.A (eval b X.env) (fun u s₂=>wpAny (model X.prog X.w) X.A (f v u) Q X.xe s₂) X.xe s₁) X.xe s:=by
 refine thnE (ha pins s σ H _ I h) fun v s1 x H1 I1 r1 q1=>?_
 refine thnE (hb pins s1 σ H1 _ I1 q1) fun u s2 y H2 I2 r2 q2=>?_
 exact hf v u s2 x y H2 I2 r1 r2 q2
theorem pe_op {op:Operator} {r:R2} (ho:OpR X (binaryOp op) r) (ha:PE X a ta) (hb:PE X b tb):PE X (.BinOp a op b pos) (tOp r ta tb):=by
 intro pins s σ H Q I h
 exact wpAny_BinOp (binT ha hb I h fun v u s2 x y H2 I2 rx ry q=>ho pins s2 σ H2 x y v u Q I2 rx ry q)
theorem pe_un {op:UnaryOp} {r:V→Hp→VK→Prop} (ho:UnR X (unaryOp op) r) (ha:PE X a ta):PE X (.UnaryOp op a pos) (tUn r ta):=by
 intro pins s σ H Q I h
 exact UnaryOp_ (thnE (ha pins s σ H _ I h) fun v s1 x H1 I1 r1 q1=>ho pins s1 σ H1 x v Q I1 r1 q1)
theorem opI {f:Value→Value→Sem Value} {C:Int→Int→Prop} {g:Int→Int→Int}
  (rule:∀ (i j:Int) (t u:Tok) (s:Shared) (Q:Value→Shared→Prop) (E:Value→Shared→Prop),C i j→Q (.int (g i j) s.toks) { s with toks:=s.toks + 1 }→wpAny (model X.prog X.w) X.A (f (.int i t) (.int j u)) Q E s) :
  OpR X f (rI C fun i j=>.int (g i j)):=by
 intro pins s σ H x y v u Q I rx ry h
 obtain ⟨i,j,rfl,rfl,hc,q⟩:=h
 obtain ⟨t,rfl⟩:=rx
 obtain ⟨t',rfl⟩:=ry
 exact rule i j t t' s _ _ hc ⟨.int (g i j),H,I.tok _,⟨_,rfl⟩,q⟩
theorem opI0 {f:Value→Value→Sem Value} {g:Int→Int→Int}
  (rule:∀ (i j:Int) (t u:Tok) (s:Shared) (Q:Value→Shared→Prop) (E:Value→Shared→Prop),Q (.int (g i j) s.toks) { s with toks:=s.toks + 1 }→wpAny (model X.prog X.w) X.A (f (.int i t) (.int j u)) Q E s) :
  OpR X f (rI0 fun i j=>.int (g i j)):=by
 intro pins s σ H x y v u Q I rx ry h
 obtain ⟨i,j,rfl,rfl,q⟩:=h
 obtain ⟨t,rfl⟩:=rx
 obtain ⟨t',rfl⟩:=ry
 exact rule i j t t' s _ _ ⟨.int (g i j),H,I.tok _,⟨_,rfl⟩,q⟩
theorem opB0 {f:Value→Value→Sem Value} {g:Int→Int→Bool}
  (rule:∀ (i j:Int) (t u:Tok) (s:Shared) (Q:Value→Shared→Prop) (E:Value→Shared→Prop),Q (.bool (g i j)) s→wpAny (model X.prog X.w) X.A (f (.int i t) (.int j u)) Q E s) :
  OpR X f (rI0 fun i j=>.bl (g i j)):=by
 intro pins s σ H x y v u Q I rx ry h
 obtain ⟨i,j,rfl,rfl,q⟩:=h
 obtain ⟨t,rfl⟩:=rx
 obtain ⟨t',rfl⟩:=ry
 exact rule i j t t' s _ _ ⟨.bl (g i j),H,I,rfl,q⟩
noncomputable def CDiv (i j:Int):Prop:=0 < j∧j < 1073741824
noncomputable def CPow (i j:Int):Prop:=0≤j∧j≤1000000∧i.natAbs < 2 ^ 64
noncomputable def CMul (i j:Int):Prop:=(-(2 ^ 64) < i∧i < 2 ^ 64)∨(-(2 ^ 64) < j∧j < 2 ^ 64)
theorem CMul.ok {i j:Int} (h:CMul i j):IntMulOk i j:=by
 rcases h with ⟨h1,h2⟩ | ⟨h1,h2⟩
 ·exact .of_left (intBits_le_64 h1 h2)
 ·exact .of_right (intBits_le_64 h1 h2)
theorem op_add:OpR X (binaryOp .Add) (rI0 fun i j=>.int (i + j)):=opI0 fun _ _ _ _ _ _ _ q=>add_int q
theorem op_sub:OpR X (binaryOp .Sub) (rI0 fun i j=>.int (i - j)):=opI0 fun _ _ _ _ _ _ _ q=>sub_int q
theorem op_fdiv:OpR X (binaryOp .FloorDiv) (rI CDiv fun i j=>.int (i / j)):=opI fun i j _ _ _ _ _ hc q=>by
 have h1:(0:Int) < j:=hc.1
 have h2:j < 1073741824:=hc.2
 exact floordiv_int (by lia) (by rw [Int.fdiv_eq_ediv_of_nonneg i (by lia)]; exact q) (.inl (PyProof.noPylong_small (by lia)))
theorem op_mod:OpR X (binaryOp .Mod) (rI (fun _ j=>0 < j) fun i j=>.int (i % j)):=opI fun i j _ _ _ _ _ hc q=>by
 have h1:(0:Int) < j:=hc
 exact mod_int' (by lia) (by rw [Int.fmod_eq_emod_of_nonneg i (by lia)]; exact q)
theorem op_pow:OpR X (binaryOp .Pow) (rI CPow fun i j=>.int (i ^ j.toNat)):=opI fun _ _ _ _ _ _ _ hc q=>pow_int_small hc.1 hc.2.1 hc.2.2 q
theorem unI {f:Value→Sem Value} {g:Int→Int}
  (rule:∀ (i:Int) (t:Tok) (s:Shared) (Q:Value→Shared→Prop) (E:Value→Shared→Prop),Q (.int (g i) s.toks) { s with toks:=s.toks + 1 }→wpAny (model X.prog X.w) X.A (f (.int i t)) Q E s) :
  UnR X f (rU fun i=>.int (g i)):=by
 intro pins s σ H x v Q I rx h
 obtain ⟨i,rfl,q⟩:=h
 obtain ⟨t,rfl⟩:=rx
 exact rule i t s _ _ ⟨.int (g i),H,I.tok _,⟨_,rfl⟩,q⟩
theorem un_neg:UnR X (unaryOp .USub) (rU fun i=>.int (-i)):=unI fun _ _ _ _ _ q=>neg_int q
end
noncomputable def scal:V→V→Bool
 | .non,.non=>true | .non,.int _=>true | .int _,.non=>true | .non,.bl _=>true | .bl _,.non=>true | .non,.str _=>true | .str _,.non=>true
 | .int _,.int _=>true | .bl _,.bl _=>true | .str _,.str _=>true | .byt _,.byt _=>true
 | .int _,.str _=>true | .str _,.int _=>true | .bl _,.str _=>true | .str _,.bl _=>true
 | _,_=>false
noncomputable def rEq:R2:=fun x y H Q=>scal x y=true∧Q (.bl (decide (x=y))) H
noncomputable def rNe:R2:=fun x y H Q=>scal x y=true∧Q (.bl (!decide (x=y))) H
theorem dec_int {i j:Int}:decide (V.int i=V.int j)=(i == j):=by
 rw [Bool.eq_iff_iff]
 simp
theorem dec_bl {i j:Bool}:decide (V.bl i=V.bl j)=(i == j):=by
 rw [Bool.eq_iff_iff]
 simp
theorem dec_str {i j:Str}:decide (V.str i=V.str j)=(i == j):=by
 rw [Bool.eq_iff_iff]
 simp
theorem dec_byt {i j:Array UInt8}:decide (V.byt i=V.byt j)=(i.toList == j.toList):=by
 rw [Bool.eq_iff_iff]
 cases i
 cases j
 simp
section
variable {X:Cx} {a b c:Expr} {ta tb tc:TE} {pos:Pos}
theorem fin_bl {pins:List (Addr×Obj)} {σ:St} {H:Hp} {s:Shared} {Q:VK} {k k':Bool} (I:Inv X pins σ H s) (q:Q (.bl k) H) (e:k=k'):EP X pins σ Q (.bool k') s:=by
 subst e
 exact ⟨.bl k,H,I,rfl,q⟩
theorem op_eq:OpR X (compareOp .Eq) rEq:=by
 intro pins s σ H x y v u Q I rx ry h
 obtain ⟨hs,q⟩:=h
 cases x with
 | non =>
  cases rx
  cases y with
  | non=>cases ry; exact PySem.EqNone.eq_none_none (fin_bl I q rfl)
  | bl j=>cases ry; exact PySem.EqNone.eq_none_bool (fin_bl I q rfl)
  | int j=>obtain ⟨t',rfl⟩:=ry; exact PySem.EqNone.eq_none_int (fin_bl I q rfl)
  | str j=>obtain ⟨t',rfl⟩:=ry; exact PySem.EqNone.eq_none_str (fin_bl I q rfl)
  | _=>exact absurd (show false=true from hs) Bool.false_ne_true
 | bl i =>
  cases rx
  cases y with
  | non=>cases ry; exact PySem.EqNone.eq_bool_none (fin_bl I q rfl)
  | bl j=>cases ry; exact eq_bool (fin_bl I q dec_bl)
  | str j=>obtain ⟨t',rfl⟩:=ry; exact PySem.EqMixed.eq_bool_str (fin_bl I q rfl)
  | _=>exact absurd (show false=true from hs) Bool.false_ne_true
 | int i =>
  obtain ⟨t,rfl⟩:=rx
  cases y with
  | non=>cases ry; exact PySem.EqNone.eq_int_none (fin_bl I q rfl)
  | int j=>obtain ⟨t',rfl⟩:=ry; exact eq_int (fin_bl I q dec_int)
  | str j=>obtain ⟨t',rfl⟩:=ry; exact PySem.EqMixed.eq_int_str (fin_bl I q rfl)
  | _=>exact absurd (show false=true from hs) Bool.false_ne_true
 | str i =>
  obtain ⟨t,rfl⟩:=rx
  cases y with
  | non=>cases ry; exact PySem.EqNone.eq_str_none (fin_bl I q rfl)
  | bl j=>cases ry; exact PySem.EqMixed.eq_str_bool (fin_bl I q rfl)
  | int j=>obtain ⟨t',rfl⟩:=ry; exact PySem.EqMixed.eq_str_int (fin_bl I q rfl)
  | str j=>obtain ⟨t',rfl⟩:=ry; exact eq_str (fin_bl I q dec_str)
  | _=>exact absurd (show false=true from hs) Bool.false_ne_true
 | byt i =>
  obtain ⟨t,rfl⟩:=rx
  cases y with
  | byt j=>obtain ⟨t',rfl⟩:=ry; exact PySem.W.eq_bytes (fin_bl I q dec_byt)
  | _=>exact absurd (show false=true from hs) Bool.false_ne_true
 | _=>cases y <;> exact absurd (show false=true from hs) Bool.false_ne_true
theorem op_ne:OpR X (compareOp .NotEq) rNe:=by
 intro pins s σ H x y v u Q I rx ry h
 obtain ⟨hs,q⟩:=h
 cases x with
 | non =>
  cases rx
  cases y with
  | non=>cases ry; exact PySem.EqNone.ne_none_none (fin_bl I q rfl)
  | bl j=>cases ry; exact PySem.EqNone.ne_none_bool (fin_bl I q rfl)
  | int j=>obtain ⟨t',rfl⟩:=ry; exact PySem.EqNone.ne_none_int (fin_bl I q rfl)
  | str j=>obtain ⟨t',rfl⟩:=ry; exact PySem.EqNone.ne_none_str (fin_bl I q rfl)
  | _=>exact absurd (show false=true from hs) Bool.false_ne_true
 | bl i =>
  cases rx
  cases y with
  | non=>cases ry; exact PySem.EqNone.ne_bool_none (fin_bl I q rfl)
  | bl j=>cases ry; exact ne_bool (fin_bl I q (congrArg not dec_bl))
  | str j=>obtain ⟨t',rfl⟩:=ry; exact PySem.EqMixed.ne_bool_str (fin_bl I q rfl)
  | _=>exact absurd (show false=true from hs) Bool.false_ne_true
 | int i =>
  obtain ⟨t,rfl⟩:=rx
  cases y with
  | non=>cases ry; exact PySem.EqNone.ne_int_none (fin_bl I q rfl)
  | int j=>obtain ⟨t',rfl⟩:=ry; exact ne_int (fin_bl I q (congrArg not dec_int))
  | str j=>obtain ⟨t',rfl⟩:=ry; exact PySem.EqMixed.ne_int_str (fin_bl I q rfl)
  | _=>exact absurd (show false=true from hs) Bool.false_ne_true
 | str i =>
  obtain ⟨t,rfl⟩:=rx
  cases y with
  | non=>cases ry; exact PySem.EqNone.ne_str_none (fin_bl I q rfl)
  | bl j=>cases ry; exact PySem.EqMixed.ne_str_bool (fin_bl I q rfl)
  | int j=>obtain ⟨t',rfl⟩:=ry; exact PySem.EqMixed.ne_str_int (fin_bl I q rfl)
  | str j=>obtain ⟨t',rfl⟩:=ry; exact ne_str (fin_bl I q (congrArg not dec_str))
  | _=>exact absurd (show false=true from hs) Bool.false_ne_true
 | byt i =>
  obtain ⟨t,rfl⟩:=rx
  cases y with
  | byt j=>obtain ⟨t',rfl⟩:=ry; exact PySem.W.ne_bytes (fin_bl I q (congrArg not dec_byt))
  | _=>exact absurd (show false=true from hs) Bool.false_ne_true
 | _=>cases y <;> exact absurd (show false=true from hs) Bool.false_ne_true
theorem op_lt:OpR X (compareOp .Lt) (rI0 fun i j=>.bl (decide (i < j))):=opB0 fun _ _ _ _ _ _ _ q=>lt_int q
theorem op_ge:OpR X (compareOp .GtE) (rI0 fun i j=>.bl (decide (j≤i))):=opB0 fun _ _ _ _ _ _ _ q=>ge_int q
theorem op_isN:OpR X (compareOp .Is) (fun x y H Q=>y=.non∧Q (.bl (decide (x=.non))) H):=by
 intro pins s σ H x y v u Q I rx ry h
 obtain ⟨rfl,q⟩:=h
 cases ry
 refine is_none_gen (fin_bl I q ?_)
 cases x <;> first
  | (cases rx; rfl)
  | (obtain ⟨t,rfl⟩:=rx; rfl)
theorem op_notN:OpR X (compareOp .IsNot) (fun x y H Q=>y=.non∧Q (.bl (!decide (x=.non))) H):=by
 intro pins s σ H x y v u Q I rx ry h
 obtain ⟨rfl,q⟩:=h
 cases ry
 refine isnot_none_gen (fin_bl I q ?_)
 cases x <;> first
  | (cases rx; rfl)
  | (obtain ⟨t,rfl⟩:=rx; rfl)
theorem nomark (b:Expr) {op:CmpOp} (h:op≠.In:=by decide) (h2:op≠.NotIn:=by decide):behindInMarks op b=false:=by
 have e1:(op == CmpOp.In)=false:=by cases op <;> first | rfl | exact absurd rfl h
 have e2:(op == CmpOp.NotIn)=false:=by cases op <;> first | rfl | exact absurd rfl h2
 cases b <;> simp [behindInMarks,e1,e2]
theorem pe_cmpR {op:CmpOp} {r:R2} (ho:OpR X (compareOp op) r) (ha:PE X a ta) (hb:PE X b tb) (hm:behindInMarks op b=false):PE X (.Compare a [op] [b] pos) (tOp r ta tb):=by
 intro pins s σ H Q I h
 exact wpAny_Compare1 (binT ha hb I h fun v u s2 x y H2 I2 rx ry q=>ho pins s2 σ H2 x y v u Q I2 rx ry q) hm
noncomputable def tTest (t:TE):TT:=fun σ H Q=>t σ H fun x H'=>Ex_1_2 (fun k=>x=.bl k) (fun k=>Q k H')
theorem pt_cmpR {op:CmpOp} {r:R2} (ho:OpR X (compareOp op) r) (ha:PE X a ta) (hb:PE X b tb) (hm:behindInMarks op b=false):PT X (.Compare a [op] [b] pos) (tTest (tOp r ta tb)):=by
 intro pins s σ H Q I h
 refine wpAny_isTrue_Compare1 (thnE (ha pins s σ H _ I h) fun v s1 x H1 I1 r1 q1=>thnE (hb pins s1 σ H1 _ I1 q1) fun u s2 y H2 I2 r2 q2 =>
  thn (ho pins s2 σ H2 x y v u _ I2 r1 r2 q2) fun c s3 ⟨z,H3,I3,r3,k,e,q3⟩=>?_) hm
 subst e
 cases r3
 exact wpAny_truthy_bool ⟨H3,I3,q3⟩
theorem line63:(sizeLine:Nat) < 2 ^ 63:=by rw [sizeLine_eq]; decide
theorem vals1 {x:V} {us:List Value} (r:Vals [x] us):∃ u,us=[u]∧RelV x u:=by
 cases r with
 | cons r1 r2=>cases r2; exact ⟨_,rfl,r1⟩
theorem vals2 {x y:V} {us:List Value} (r:Vals [x,y] us):Ex_2_3 (fun u w'=>us=[u,w']) (fun u w'=>RelV x u) (fun u w'=>RelV y w'):=by
 cases r with
 | cons r1 r2 =>
  cases r2 with
  | cons r3 r4=>cases r4; exact ⟨_,_,rfl,r1,r3⟩
theorem call_max2 (hc:X.calm=true):CallR X (.builtin "max") (fun xs H Q=>Ex_2_2 (fun i j=>xs=[.int i,.int j]) (fun i j=>Q (.int (if j > i then j else i)) H)):=by
 intro pins s σ H xs us Q I r h
 obtain ⟨i,j,rfl,q⟩:=h
 obtain ⟨u,w',rfl,⟨t,rfl⟩,⟨t',rfl⟩⟩:=vals2 r
 refine max_two_ints (I.ok.hd hc) fun h' tk k=>⟨_,H,I.kept k,?_,q⟩
 by_cases hj:j > i
 ·rw [if_pos hj,if_pos hj]; exact ⟨_,rfl⟩
 ·rw [if_neg hj,if_neg hj]; exact ⟨_,rfl⟩
theorem call_min2 (hc:X.calm=true):CallR X (.builtin "min") (fun xs H Q=>Ex_2_2 (fun i j=>xs=[.int i,.int j]) (fun i j=>Q (.int (if j < i then j else i)) H)):=by
 intro pins s σ H xs us Q I r h
 obtain ⟨i,j,rfl,q⟩:=h
 obtain ⟨u,w',rfl,⟨t,rfl⟩,⟨t',rfl⟩⟩:=vals2 r
 refine min_two_ints (I.ok.hd hc) fun h' tk k=>⟨_,H,I.kept k,?_,q⟩
 by_cases hj:j < i
 ·rw [if_pos hj,if_pos hj]; exact ⟨_,rfl⟩
 ·rw [if_neg hj,if_neg hj]; exact ⟨_,rfl⟩
theorem call_int1:CallR X (.type "int") (fun xs H Q=>(∃ i,xs=[.int i]∧Q (.int i) H)∨∃ k,xs=[.bl k]∧Q (.int (if k then 1 else 0)) H):=by
 intro pins s σ H xs us Q I r h
 rcases h with ⟨i,rfl,q⟩ | ⟨k,rfl,q⟩
 ·obtain ⟨u,rfl,t,rfl⟩:=vals1 r
  exact call_int_int ⟨.int i,H,I,⟨_,rfl⟩,q⟩
 ·obtain ⟨u,rfl,r1⟩:=vals1 r
  cases r1
  exact call_int_bool ⟨.int (if k then 1 else 0),H,I.tok _,⟨_,rfl⟩,q⟩
end
end L2
namespace L2
open PySem PySem.Spec PyProof.Rows
structure ObjM (h:Heap) (x dx C:Addr) (mA:Str→Option Value):Prop where
 obj:h.get? x=some (PySem.W.instObj C dx)
 ns:h.Ns1 dx mA
 ne:dx≠x
theorem lookIn_ns {h:Heap} {dx:Addr} {mA:Str→Option Value} (n:h.Ns1 dx mA):∃ od,h.get? dx=some od∧∀ name,PySem.W.lookIn name od=some (mA name):=by
 obtain ⟨o,es,ep,ho,hd,hk,_,hm⟩:=n
 refine ⟨o,ho,fun name=>?_⟩
 have e:=hm name
 unfold nsFind findBy at e
 rw [← Array.find?_toList] at e
 unfold PySem.W.lookIn
 rw [hd]
 dsimp only
 split
 ·rename_i y q
  rw [q] at e
  exact congrArg some e
 ·rename_i q
  rw [q] at e
  have a:es.toList.any (·.refKey)=false:=by
   rw [List.any_eq_false]
   intro y hy
   obtain ⟨z,t,hkey⟩:=hk y (Array.mem_toList_iff.mp hy)
   simp [DictEntry.refKey,hkey]
  have a':¬ es.toList.any (·.refKey)=true:=by rw [a]; exact Bool.false_ne_true
  rw [if_neg a']
  exact congrArg some e
theorem ObjM.look {h:Heap} {x dx C:Addr} {mA:Str→Option Value} (I:ObjM h x dx C mA):∃ od,PySem.W.InstAt h x (PySem.W.instObj C dx) C (some od)∧∀ name,PySem.W.lookIn name od=some (mA name) :=
 let ⟨od,ho,hl⟩:=lookIn_ns I.ns
 ⟨od,⟨I.obj,rfl,rfl,ho⟩,hl⟩
section
variable {prog:Program} {w:World} {A:Around} {E:Value→Shared→Prop} {s:Shared} {K:PySem.W.Frag} {x dx C f:Addr} {mA:Str→Option Value} {name:Str} {v:Value}
theorem get_map {expr:Bool} {Q:Value→Shared→Prop} (X:K.In s.heap) (I:ObjM s.heap x dx C mA) (hg:PySem.W.plainGet K C name=true) (hh:PySem.W.hasDictIn K C=true)
  (ha:PySem.W.findIn K (.ref C) name=some none) (hv:mA name=some v) (hv':PySem.W.handedIn v=true) (h:Q v { s with toks:=s.toks + 1 }) :
  wpAny (model prog w) A (getAttr (.ref x) name expr) Q E s:=by
 obtain ⟨od,J,hl⟩:=I.look
 exact PySem.W.get_value X J (PySem.W.plainGet_of hg).1 (PySem.W.findObj_own hh ha rfl (by rw [hl,hv])) hv' h
theorem set_map {ns:List Str} {Q:Unit→Shared→Prop} (X:K.In s.heap) (I:ObjM s.heap x dx C mA)
  (hs:PySem.W.findIn K (.ref C) "__setattr__"=some (some (.builtin "object.__setattr__"))) (hp:PySem.W.plainOver K C=true) (ht:PySem.W.takerIn K C name=some none) (hh:PySem.W.hasDictIn K C=true)
  (hw:PySem.Within mA ns) (hsz:ns.length≤sizeLine)
  (h:∀ h',ObjM h' x dx C (fun y=>if y=name then some v else mA y)→Heap.SameBut dx s.heap h'→Q () { s with heap:=h',toks:=s.toks + 2 }) :
  wpAny (model prog w) A (setAttr (.ref x) name v) Q E s:=by
 obtain ⟨od,J,hl⟩:=I.look
 refine PySem.W.set_plain X J hs (PySem.W.osa_open (s:={ s with toks:=s.toks + 1 }) (r:=none) X J hp ht fun b=>?_)
 obtain ⟨cd,hc,hd'⟩:=PySem.W.any_some hh
 have hx:s.heap.get? x=some ⟨.ref C,some dx,.plain,#[]⟩:=I.obj
 refine wpAny_bind (wpAny_pure (wpAny_bind (wpAny_bind (wpAny_loadPart hx (wpAny_bind (PySem.W.Looks.here (s:={ s with toks:=s.toks + 1 }) (PySem.W.looks_clsIn X hc) ?_))))))
 rw [hd']
 refine wpAny_pure (a:=some dx) (wpAny_bind (wpAny_pure (wpAny_bind ?_)))
 refine wpAny_nsSet1 (s:={ s with toks:=s.toks + 1 }) I.ns fun h' hn2 hs2=>?_
 obtain ⟨oD,esD,epD,hoD,hdD,hcD⟩:=hn2.count (PySem.Within.cons name v hw)
 refine wpAny_bind (wpAny_lookBehind hoD (by rw [hdD]; exact pastItsLine_dict (Nat.le_trans hcD (by rw [List.length_cons]; lia))) ?_)
 exact wpAny_pure (h _ ⟨(hs2.2 _ (Ne.symm I.ne)).trans I.obj,hn2,I.ne⟩ hs2)
theorem make_map {R:Result→Shared→Prop} {vs:List Value} {kw:List (Str×Value)} (X:K.In s.heap) (hm:PySem.W.makesIn K C=true)
  (hi:PySem.W.findIn K (.ref C) "__init__"=some (some (.ref f))) (hf:PySem.W.typeIn K (.ref f)=some (.type "function"))
  (h:codeAny (model prog w) (A.under (.builtin "type.__call__" ⟨.ref C :: vs,kw⟩)) (.call (.ref f) ⟨.ref (s.heap.objs.size + 1) :: vs,kw⟩) (PySem.W.InitBack (s.heap.objs.size + 1) R)
   { s with heap:=(s.heap.push PySem.W.emptyDict).push (PySem.W.instObj C s.heap.objs.size) }) :
  codeAny (model prog w) A (.call (.ref C) ⟨vs,kw⟩) R s:=by
 obtain ⟨hh,g,d,t,os⟩:=s
 exact PySem.W.make_core (PySem.W.makes_of X hm) (PySem.W.looks_findIn X hi) (fun self=>PySem.W.bind_fn X self hf) (.inl rfl) h
end
noncomputable def putF (f:Str) (v:V):List (Str×V)→List (Str×V)
 | []=>[(f,v)]
 | (g,x) :: r=>if g=f then (g,v) :: r else (g,x) :: putF f v r
theorem lookup_putF (f g:Str) (v:V):∀ fs:List (Str×V),(putF f v fs).lookup g=if g=f then some v else fs.lookup g
 | []=>by
  show List.lookup g [(f,v)]=_
  by_cases h:g=f
  ·have hb:(g == f)=true:=beq_iff_eq.mpr h
   simp only [List.lookup,hb,if_pos h]
  ·have hb:(g == f)=false:=beq_eq_false_iff_ne.mpr h
   simp only [List.lookup,hb,if_neg h]
 | (k,x) :: r=>by
  have ih:=lookup_putF f g v r
  rw [show putF f v ((k,x) :: r)=(if k=f then (k,v) :: r else (k,x) :: putF f v r) from rfl]
  by_cases hk:k=f
  ·rw [if_pos hk]
   by_cases h:g=k
   ·have hb:(g == k)=true:=beq_iff_eq.mpr h
    simp only [List.lookup,hb,if_pos (h.trans hk)]
   ·have hb:(g == k)=false:=beq_eq_false_iff_ne.mpr h
    simp only [List.lookup,hb,if_neg (fun e:g=f=>h (e.trans hk.symm))]
  ·rw [if_neg hk]
   by_cases h:g=k
   ·have hb:(g == k)=true:=beq_iff_eq.mpr h
    simp only [List.lookup,hb,if_neg (fun e:g=f=>hk (h.symm.trans e))]
   ·have hb:(g == k)=false:=beq_eq_false_iff_ne.mpr h
    simp only [List.lookup,hb]
    exact ih
theorem keys_putF (f:Str) (v:V):∀ fs:List (Str×V),f∈(putF f v fs).map (·.1)∧∀ g,g∈fs.map (·.1)→g∈(putF f v fs).map (·.1)
 | []=>⟨by simp [putF],fun g h=>by simp at h⟩
 | (k,x) :: r=>by
  obtain ⟨i1,i2⟩:=keys_putF f v r
  rw [show putF f v ((k,x) :: r)=(if k=f then (k,v) :: r else (k,x) :: putF f v r) from rfl]
  by_cases hk:k=f
  ·rw [if_pos hk]
   subst hk
   exact ⟨by simp,fun g h=>by simpa using h⟩
  ·rw [if_neg hk]
   refine ⟨?_,fun g h=>?_⟩
   ·rw [List.map_cons]
    exact List.mem_cons_of_mem _ i1
   ·rw [List.map_cons] at h ⊢
    rcases List.mem_cons.mp h with e | e
    ·exact List.mem_cons.mpr (.inl e)
    ·exact List.mem_cons_of_mem _ (i2 g e)
theorem length_putF (f:Str) (v:V):∀ fs:List (Str×V),(putF f v fs).length≤fs.length + 1
 | []=>by simp [putF]
 | (k,x) :: r=>by
  have ih:=length_putF f v r
  rw [show putF f v ((k,x) :: r)=(if k=f then (k,v) :: r else (k,x) :: putF f v r) from rfl]
  by_cases hk:k=f
  ·rw [if_pos hk,List.length_cons,List.length_cons]; lia
  ·rw [if_neg hk,List.length_cons,List.length_cons]; lia
theorem RelO.some_of {v:V} {o:Option Value} (r:RelO (some v) o):∃ u,o=some u∧RelV v u:=by
 cases o with
 | none=>exact (show False from r).elim
 | some u=>exact ⟨u,rfl,r⟩
theorem handed_of {v:V} {u:Value} (r:RelV v u):PySem.W.handedIn u=true:=by
 cases v with
 | non=>cases (show u=Value.none from r); rfl
 | bl b=>cases (show u=Value.bool b from r); rfl
 | int i=>obtain ⟨t,e⟩:=(show ∃ t,u=Value.int i t from r); cases e; rfl
 | str x=>obtain ⟨t,e⟩:=(show ∃ t,u=Value.str x t from r); cases e; rfl
 | byt b=>obtain ⟨t,e⟩:=(show ∃ t,u=Value.bytes b t from r); cases e; rfl
 | flt b=>obtain ⟨t,e⟩:=(show ∃ t,u=Value.float b t from r); cases e; rfl
 | ref a=>cases (show u=Value.ref a from r); rfl
 | ty n=>cases (show u=Value.type n from r); rfl
section
variable {P:Program} {w:World} {H H':Hp} {h h':Heap} {a C dx:Addr} {fs fs':List (Str×V)}
theorem ins_get (hok:HOk P w H h) (e:H a=some (.ins C dx fs)):∃ mA,ObjM h a dx C mA∧(∀ f,RelO (fs.lookup f) (mA f))∧PySem.Within mA (fs.map (·.1))∧fs.length≤1000∧H dx=some (.own a):=by
 obtain ⟨d,z,ne,ob,mA,n,r,q⟩:=(show ObjOk P w H h a (.ins C dx fs) from hok a _ e)
 exact ⟨mA,⟨ob,n,ne⟩,r,q,z,d⟩
end
structure Cls (K:PySem.W.Frag) (C:Addr):Prop where
 pg:PySem.W.plainGet K C Str.empty=true
 hd:PySem.W.hasDictIn K C=true
 po:PySem.W.plainOver K C=true
 sa:PySem.W.findIn K (.ref C) "__setattr__"=some (some (.builtin "object.__setattr__"))
theorem Cls.get {K:PySem.W.Frag} {C:Addr} (c:Cls K C) (f:Str):PySem.W.plainGet K C f=true:=c.pg
noncomputable def NoAttr (K:PySem.W.Frag) (C:Addr) (f:Str):Prop:=PySem.W.findIn K (.ref C) f=some none
theorem NoAttr.taker {K:PySem.W.Frag} {C:Addr} {f:Str} (n:NoAttr K C f):PySem.W.takerIn K C f=some none:=by
 unfold PySem.W.takerIn
 rw [show PySem.W.findIn K (.ref C) f=some none from n]
 rfl
section
variable {X:Cx} {pins:List (Addr×Obj)} {σ:St} {H:Hp} {s:Shared} {a C dx:Addr} {fs:List (Str×V)} {f:Str} {v:V} {A:Around} {E:Value→Shared→Prop}
theorem getattr_ok {b:Bool} {Q:Value→Shared→Prop} (I:Inv X pins σ H s) (e:H a=some (.ins C dx fs)) (c:Cls X.K C) (n:NoAttr X.K C f) (l:fs.lookup f=some v)
  (h:∀ u s',Inv X pins σ H s'→RelV v u→Q u s'):wpAny (model X.prog X.w) A (getAttr (.ref a) f b) Q E s:=by
 obtain ⟨mA,O,r,_,_,_⟩:=ins_get I.hok e
 obtain ⟨u,hu,ru⟩:=RelO.some_of (v:=v) (o:=mA f) (by rw [← l]; exact r f)
 exact get_map I.kIn O (c.get f) c.hd n hu (handed_of ru) (h u _ (I.tok _) ru)
theorem setattr_ok {y:V} {u:Value} {Q:Unit→Shared→Prop} (I:Inv X pins σ H s) (e:H a=some (.ins C dx fs)) (c:Cls X.K C) (n:NoAttr X.K C f) (hl:fs.length < 1000) (ry:RelV y u)
  (h:∀ s',Inv X pins σ (upd H a (.ins C dx (putF f y fs))) s'→Q () s'):wpAny (model X.prog X.w) A (setAttr (.ref a) f u) Q E s:=by
 obtain ⟨mA,O,r,wi,_,ho⟩:=ins_get I.hok e
 have hz:(fs.map (·.1)).length≤sizeLine:=by rw [List.length_map,sizeLine_eq]; lia
 refine set_map I.kIn O c.sa c.po n.taker c.hd wi hz fun h' O' sb=>h _ ?_
 have hd:∃ o,h'.get? dx=some o:=let ⟨o,_,_,e',_⟩:=O'.ns; ⟨o,e'⟩
 refine I.write (x:=a) (e:=dx) (by rw [e]; exact True.intro) (.inr ho) (fun b q hb z=>(sb.2 b hb).trans z) hd ?_
 refine ⟨by rw [upd_ne O.ne]; exact ho,?_,O.ne,O'.obj,_,O'.ns,fun g=>?_,fun g hg=>?_⟩
 ·have:=length_putF f y fs; lia
 ·show RelO ((putF f y fs).lookup g) (if g=f then some u else mA g)
  rw [lookup_putF]
  by_cases q:g=f
  ·rw [if_pos q,if_pos q]; exact ry
  ·rw [if_neg q,if_neg q]; exact r g
 ·by_cases q:g=f
  ·rw [q]; exact (keys_putF f y fs).1
  ·refine (keys_putF f y fs).2 g (wi g fun z=>hg ?_)
   show (if g=f then some u else mA g)=none
   rw [if_neg q]; exact z
theorem Inv.made (I:Inv X pins σ H s):Inv X pins σ (upd (upd H s.heap.objs.size (.own (s.heap.objs.size + 1))) (s.heap.objs.size + 1) (.ins C s.heap.objs.size []))
  { s with heap:=(s.heap.push PySem.W.emptyDict).push (PySem.W.instObj C s.heap.objs.size) }:=by
 have e1:(s.heap.push PySem.W.emptyDict).get? s.heap.objs.size=some PySem.W.emptyDict:=Heap.get?_push_size s.heap rfl
 have e2:((s.heap.push PySem.W.emptyDict).push (PySem.W.instObj C s.heap.objs.size)).get? (s.heap.objs.size + 1)=some (PySem.W.instObj C s.heap.objs.size):=by
  have:=Heap.get?_push_size (s.heap.push PySem.W.emptyDict) (o:=PySem.W.instObj C s.heap.objs.size) rfl
  rwa [Heap.size_push] at this
 have e3:(s.heap.push PySem.W.emptyDict).Ns s.heap.objs.size (fun _=>none):=⟨PySem.W.emptyDict,#[],_,e1,rfl,(fun e he=>absurd he (by simp)),fun _=>rfl⟩
 have I1:=I.laid (a:=s.heap.objs.size) (o:=.own (s.heap.objs.size + 1)) (h':=s.heap.push PySem.W.emptyDict) (t':=s.toks) (fun b u q=>Heap.get?_push_of_some _ q) (Nat.le_refl _) ⟨_,e1⟩
 refine I1.laid (a:=s.heap.objs.size + 1) (o:=.ins C s.heap.objs.size []) (t':=s.toks) (fun b u q=>Heap.get?_push_of_some _ q) (Nat.le_of_eq (Heap.size_push _ _)) ?_
 have ne:s.heap.objs.size≠s.heap.objs.size + 1:=Nat.ne_of_lt (Nat.lt_succ_self _)
 refine ⟨by rw [upd_ne ne,upd_same],Nat.zero_le _,ne,e2,fun _=>none,(Heap.Ns1.of_empty e3).at fun o q=>Heap.get?_push_of_some _ q,fun _=>True.intro,fun y hy=>absurd rfl hy⟩
theorem attr_of {prog:Program} {w:World} {env:Env} {e:Expr} {f:Str} {pos:Pos} {s:Shared} {Q:Value→Shared→Prop} (hb:attributeBase e f env (eval e env)=eval e env)
  (h:wpAny (model prog w) A (eval e env) (fun o s₁=>wpAny (model prog w) A (getAttr o f true) Q E s₁) E s):wpAny (model prog w) A (eval (.Attribute e f pos) env) Q E s :=
 Attribute_any_ h (by rw [arm_eval_Attribute,hb])
end
noncomputable def tFld (K:PySem.W.Frag) (ta:TE) (f:Str):TE:=fun σ H Q=>ta σ H fun x H1=>Ex_5_6 (fun a C dx fs v=>x=.ref a) (fun a C dx fs v=>H1 a=some (.ins C dx fs)) (fun a C dx fs v=>Cls K C) (fun a C dx fs v=>NoAttr K C f) (fun a C dx fs v=>fs.lookup f=some v) (fun a C dx fs v=>Q v H1)
noncomputable def sFld (K:PySem.W.Frag) (ta tv:TE) (f:Str):TS:=fun D σ H=>tv σ H fun y H1=>ta σ H1 fun x H2=>Ex_4_6 (fun a C dx fs=>x=.ref a) (fun a C dx fs=>H2 a=some (.ins C dx fs)) (fun a C dx fs=>Cls K C) (fun a C dx fs=>NoAttr K C f) (fun a C dx fs=>fs.length < 1000) (fun a C dx fs=>D.nx σ (upd H2 a (.ins C dx (putF f y fs))))
section
variable {X:Cx} {o e value:Expr} {f:Str} {pos pos' tpos:Pos} {ta tv:TE}
theorem pe_fld (he:PE X e ta) (hb:attributeBase e f X.env (eval e X.env)=eval e X.env):PE X (.Attribute e f pos) (tFld X.K ta f):=by
 intro pins s σ H Q I h
 refine attr_of hb (thnE (he pins s σ H _ I h) fun u s1 x H1 I1 rx qz2=>?_)
 obtain ⟨a,C,dx,fs,v,ex,ea,c,n,l,q⟩:=qz2
 subst ex
 obtain rfl:u=Value.ref a:=rx
 exact getattr_ok I1 ea c n l fun u' s2 I2 ru=>⟨v,H1,I2,ru,q⟩
theorem ps_fld (ha:PE X o ta) (hv:PE X value tv) (hs:swapsWith value (some (.Attribute o f pos')) pos.line X.env=pure false):PS X (.Assign [.Attribute o f pos'] value pos) (sFld X.K ta tv f):=by
 intro pins s σ H D I h
 refine plainObj_wpAny_Assign_Attribute (thnE (hv pins s σ H _ I h) fun u s1 y H1 I1 ry q=>thnE (ha pins s1 σ H1 _ I1 q) fun ov s2 x H2 I2 rx qz4=>?_) hs
 obtain ⟨a,C,dx,fs,ex,ea,c,n,l,q2⟩:=qz4
 subst ex
 obtain rfl:ov=Value.ref a:=rx
 exact setattr_ok I2 ea c n l ry fun s3 I3=>⟨σ,_,I3,q2⟩
end
section
variable {X:Cx} {pins:List (Addr×Obj)} {σ:St} {H:Hp} {s:Shared} {A:Around} {E:Value→Shared→Prop} {Q:Value→Shared→Prop} {c:Value} {b:Bool}
end
end L2
namespace L2
open PySem PySem.Spec PyProof.Rows
structure Room (k:Nat) (A:Around):Prop where
 hd:A.handled=none
 dp:A.depth + 3 * k + 5 < recursionLimit
 un:A.units + 16 * k + 200 < cLine
theorem Room.mono {j k:Nat} {A:Around} (r:Room k A) (h:j≤k):Room j A:=⟨r.hd,by have:=r.dp; lia,by have:=r.un; lia⟩
theorem Room.deeper {k:Nat} {A:Around} (r:Room (k + 1) A) (env:Env):Room k (A.deeper env) :=
 ⟨r.hd,by have:=r.dp; show A.depth + 1 + 3 * k + 5 < _; lia,by have:=r.un; show A.units + 3 + 16 * k + 200 < _; lia⟩
theorem make_depth {A:Around} {C:Addr} {us:List Value} {kw:List (Str×Value)}:(A.under (.builtin "type.__call__" ⟨.ref C :: us,kw⟩)).depth=A.depth + 1:=by
 first | rfl | simp [Around.under,Code.weight,Code.isCreation,Code.isGuard,Code.isCaller,Code.frames,Code.isFrame,guardIds]
theorem make_units {A:Around} {C:Addr} {us:List Value} {kw:List (Str×Value)}:(A.under (.builtin "type.__call__" ⟨.ref C :: us,kw⟩)).units=A.units + 1:=by
 first | rfl | simp [Around.under,Code.cUnits,Code.frames,Code.isFrame]
theorem Room.make {k:Nat} {A:Around} (r:Room (k + 1) A) (C:Addr) (us:List Value) (kw:List (Str×Value)):Room k (A.under (.builtin "type.__call__" ⟨.ref C :: us,kw⟩)) :=
 ⟨r.hd,by have:=r.dp; rw [make_depth]; lia,by have:=r.un; rw [make_units]; lia⟩
theorem Room.depth {k:Nat} {A:Around} (r:Room k A):A.depth < recursionLimit:=by have:=r.dp; lia
theorem Room.units {k:Nat} {A:Around} (r:Room k A):A.units + 64 < cLine:=by have:=r.un; lia
noncomputable def tNil:TA:=fun _ H Q=>Q [] H
noncomputable def tCons (ta:TE) (tr:TA):TA:=fun σ H Q=>ta σ H fun x H1=>tr σ H1 fun xs H2=>Q (x :: xs) H2
section
variable {X:Cx} {e:Expr} {es:List Expr} {te:TE} {t:TA} {pos:Pos}
theorem pa_nil:PA X [] tNil:=fun _ _ _ _ H Q I h=>Calls.spliced_nil ⟨[],H,I,.nil,h⟩
theorem pa_cons (ha:PE X e te) (hr:PA X es t) (hs:starEach (e :: es) X.env=(false,eval e X.env) :: starEach es X.env:=by rfl):PA X (e :: es) (tCons te t):=by
 intro pos pins s σ H Q I h
 rw [hs]
 show wpAny _ _ (spliced ((false,eval e X.env) :: backTo pos (starEach es X.env))) _ _ s
 refine Calls.spliced_cons (thnE (ha pins s σ H _ I h) fun u s1 x H1 I1 r1 q1=>?_)
 exact thnA (hr pos pins s1 σ H1 _ I1 q1) fun us s2 xs H2 I2 r2 q2=>⟨x :: xs,H2,I2,.cons r1 r2,q2⟩
noncomputable def tTup (t:TA):TE:=fun σ H Q=>t σ H fun xs H1=>xs.length≤sizeLine∧∀ p,H1 p=none→Q (.ref p) (upd H1 p (.tup xs))
noncomputable def tLst (t:TA):TE:=fun σ H Q=>t σ H fun xs H1=>xs.length≤sizeLine∧∀ p,H1 p=none→Q (.ref p) (upd H1 p (.lst xs))
theorem pe_tup {x1} (h:PA X es t):PE X (.Tuple es x1 pos) (tTup t):=by
 intro pins s σ H Q I hq
 refine wpAny_Tuple_spliced (thn (h pos pins s σ H _ I hq) fun us s1 ⟨xs,H1,I1,r,z,q⟩=>⟨by rw [← r.length]; exact z,?_⟩)
 have hf:H1 s1.heap.objs.size=none:=I1.hok.fresh (Nat.le_refl _)
 refine ⟨.ref s1.heap.objs.size,upd H1 s1.heap.objs.size (.tup xs),I1.laid (t':=s1.toks) (fun b u e=>Heap.get?_push_of_some _ e) (Nat.le_refl _) ?_,rfl,q _ hf⟩
 exact ⟨z,us,r,⟨_,Heap.get?_push_size _ rfl,rfl,_,rfl⟩⟩
theorem pe_lst (h:PA X es t):PE X (.List es pos) (tLst t):=by
 intro pins s σ H Q I hq
 refine wpAny_List_spliced (thn (h pos pins s σ H _ I hq) fun us s1 ⟨xs,H1,I1,r,z,q⟩=>⟨by rw [← r.length]; exact z,?_⟩)
 have hf:H1 s1.heap.objs.size=none:=I1.hok.fresh (Nat.le_refl _)
 refine ⟨.ref s1.heap.objs.size,upd H1 s1.heap.objs.size (.lst xs),I1.laid (t':=s1.toks) (fun b u e=>Heap.get?_push_of_some _ e) (Nat.le_refl _) ?_,rfl,q _ hf⟩
 exact ⟨z,us,0,r,Heap.get?_push_size _ rfl⟩
end
noncomputable abbrev Sp:=List V→Hp→VK→XK→Prop
noncomputable abbrev CXT:=List Env→Hp→Shared→XK→Value→Shared→Prop
structure Env0 (P:Program) (w:World) (K:PySem.W.Frag) (mg:Str→Option Value) (base:Heap) (A:Around) (outer:List Env) (s:Shared) (H:Hp):Prop where
 frames:A.frames=some outer
 mod:Mod K mg base
 bs:∀ b o,base.get? b=some o→s.heap.get? b=some o∧H b=none
 bsz:base.objs.size≤s.heap.objs.size
 funs:s.heap.FunFrames base outer
 frf:∀ b∈frs outer,H b=none
 hok:HOk P w H s.heap
 bare:AllBare s.gens
noncomputable def CE (outer:List Env) (P:Program) (w:World) (H:Hp) (s:Shared) (Q:VK) (u:Value) (s':Shared):Prop :=
 Ex_2_6 (fun v H'=>s'.os=s.os) (fun v H'=>AllBare s'.gens) (fun v H'=>Un (frs outer) [] H H' s.heap s'.heap) (fun v H'=>HOk P w H' s'.heap) (fun v H'=>RelV v u) (fun v H'=>Q v H')
noncomputable def CR (CX:CXT) (outer:List Env) (P:Program) (w:World) (H:Hp) (s:Shared) (Q:VK) (E:XK) (r:Result) (s':Shared):Prop :=
 match r with
 | .ok (.ret u)=>CE outer P w H s Q u s'
 | .ok _=>False
 | .error e=>CX outer H s E e s'
structure FnOk (P:Program) (w:World) (K:PySem.W.Frag) (mg:Str→Option Value) (base:Heap) (CX:CXT) (k:Nat) (f:Addr) (fd:FuncData) (ps:List Str) (sp:Sp):Prop where
 len:∀ vs H Q E,sp vs H Q E→vs.length=ps.length
 run:∀ (A:Around) (outer:List Env) (s:Shared) (H:Hp) (args:Args) (us:List Value) (vs:List V) (Q:VK) (E:XK),Room k A→Env0 P w K mg base A outer s H→BindsTo s fd args (ps.zip us)→Vals vs us→sp vs H Q E →
  codeAny (model P w) A (.call (.ref f) args) (CR CX outer P w H s Q E) s
theorem Env0.make {P:Program} {w:World} {K:PySem.W.Frag} {mg:Str→Option Value} {base:Heap} {A:Around} {outer:List Env} {s:Shared} {H:Hp} (e:Env0 P w K mg base A outer s H) (C:Addr) (us:List Value) (kw:List (Str×Value)) :
  Env0 P w K mg base (A.under (.builtin "type.__call__" ⟨.ref C :: us,kw⟩)) outer s H:=⟨by first | exact e.frames | (simpa [Around.under,Code.envs,Code.isFrame,pushEnvs] using e.frames),e.mod,e.bs,e.bsz,e.funs,e.frf,e.hok,e.bare⟩
section
variable {X:Cx} {pins:List (Addr×Obj)} {σ:St} {H:Hp} {s s':Shared}
theorem Inv.env0 (I:Inv X pins σ H s):Env0 X.prog X.w X.K X.mg X.base X.A X.stack s H :=
 ⟨I.ok.frames,I.ok.mod,I.bs,Nat.le_trans I.ok.bsz I.sz,I.stack,I.stkFree,I.hok,I.bare⟩
theorem Inv.after {Q:VK} {u:Value} (I:Inv X pins σ H s) (h:CE X.stack X.prog X.w H s Q u s'):EP X pins σ Q u s':=by
 obtain ⟨v,H',os,bare,un,hok,r,q⟩:=h
 obtain ⟨hh,g,d,t,os'⟩:=s'
 obtain rfl:os'=s.os:=os
 exact ⟨v,H',I.call (h':=hh) (g':=g) (d':=d) (t':=t) (ch:=[]) un hok bare (fun b z=>absurd z (by simp)),r,q⟩
end
noncomputable def tCall (sp:Sp) (dvs:List V) (E:XK) (t:TA):TE:=fun σ H Q=>t σ H fun vs H1=>sp (vs ++ dvs) H1 Q E
noncomputable def tMake (C:Addr) (sp:Sp) (dvs:List V) (E:XK) (t:TA):TE:=fun σ H Q=>t σ H fun vs H1=>∀ x dx,H1 x=none→H1 dx=none→dx≠x →
 sp (.ref x :: (vs ++ dvs)) (upd (upd H1 dx (.own x)) x (.ins C dx [])) (fun v H2=>v=.non∧Q (.ref x) H2) E
noncomputable def Binds (K:PySem.W.Frag) (fd:FuncData) (ps:List Str) (ds:List Value):Prop :=
 ∀ (s:Shared) (us:List Value),K.In s.heap→(us ++ ds).length=ps.length→BindsTo s fd ⟨us,[]⟩ (ps.zip (us ++ ds))
theorem Binds.all {K:PySem.W.Frag} {fd:FuncData} {ps:List Str} (h:∀ us:List Value,us.length=ps.length→bindArgs fd ⟨us,[]⟩=pure (ps.zip us)):Binds K fd ps []:=fun s us _ hl=>by
 rw [List.append_nil] at hl ⊢
 exact .of_eq (h us hl)
noncomputable def Passes (CX:CXT) (X:Cx) (E:XK):Prop:=∀ (pins:List (Addr×Obj)) (σ:St) (H:Hp) (s:Shared) (e:Value) (s':Shared),Inv X pins σ H s→CX X.stack H s E e s'→X.xe e s'
section
variable {X:Cx} {CX:CXT} {k:Nat} {f C:Addr} {fd:FuncData} {ps:List Str} {sp:Sp} {dvs:List V} {ds:List Value} {E:XK} {x m:Str} {p pos apos:Pos} {e o:Expr} {es:List Expr} {ta:TE} {t:TA}
theorem run_fn {pins:List (Addr×Obj)} {σ:St} {H:Hp} {s:Shared} {Q:VK} {us:List Value} {vs:List V} (F:FnOk X.prog X.w X.K X.mg X.base CX k f fd ps sp) (hr:Room k X.A) (hb:Binds X.K fd ps ds) (hd:Vals dvs ds) (hx:Passes CX X E)
  (I:Inv X pins σ H s) (r:Vals vs us) (h:sp (vs ++ dvs) H Q E):wpAny (model X.prog X.w) X.A (call (.ref f) us) (EP X pins σ Q) X.xe s:=by
 have r2:Vals (vs ++ dvs) (us ++ ds):=r.append hd
 have hl:(us ++ ds).length=ps.length:=by rw [← r2.length]; exact F.len _ _ _ _ h
 refine wpAny_call (codeAny_mono (F.run X.A X.stack s H ⟨us,[]⟩ (us ++ ds) (vs ++ dvs) Q E hr I.env0 (hb s us I.kIn hl) r2 h) fun r s' hq=>?_)
 cases r with
 | error e=>exact hx pins σ H s e s' I hq
 | ok fl =>
  cases fl with
  | ret u=>exact I.after hq
  | next=>exact False.elim hq
  | brk=>exact False.elim hq
  | cont=>exact False.elim hq
theorem pe_call (F:FnOk X.prog X.w X.K X.mg X.base CX k f fd ps sp) (hr:Room k X.A) (hg:Gl X x) (hm:X.mg x=some (.ref f)) (hk:PySem.W.keepIn X.K (.ref f)=true) (hb:Binds X.K fd ps ds) (hd:Vals dvs ds) (hx:Passes CX X E)
  (ha:PA X (e :: es) t) (hdb:(x == ("__debug__":Str))=false:=by decide) (he:starEach (e :: es) X.env=(false,eval e X.env) :: starEach es X.env:=by rfl) (hpl:(backTo pos (starEach es X.env)).any (·.1)=false:=by rfl) :
  PE X (.Call (.Name x p) (e :: es) [] pos) (tCall sp dvs E t):=by
 intro pins s σ H Q I h
 refine wpAny_Call_Name_kw (ld_glob I hg hm ?_ hdb)
 refine PySem.W.callWith_K (h₀:=X.base) I.ok.mod.kin hk (thnA (ha pos pins s σ H _ I h) fun us s1 vs H1 I1 r q=>⟨I1.kIn,?_⟩) he hpl
 exact run_fn F hr hb hd hx I1 r q
structure Mk (K:PySem.W.Frag) (C f:Addr):Prop where
 makes:PySem.W.makesIn K C=true
 init:PySem.W.findIn K (.ref C) "__init__"=some (some (.ref f))
 fn:PySem.W.isFn K (.ref f)=true
 kp:PySem.W.keepIn K (.ref C)=true
theorem run_make {pins:List (Addr×Obj)} {σ:St} {H:Hp} {s:Shared} {Q:VK} {us:List Value} {vs:List V} (M:Mk X.K C f) (F:FnOk X.prog X.w X.K X.mg X.base CX k f fd ps sp) (hr:Room (k + 1) X.A) (hb:Binds X.K fd ps ds) (hd:Vals dvs ds)
  (hx:Passes CX X E) (I:Inv X pins σ H s) (r:Vals vs us)
  (h:∀ x dx,H x=none→H dx=none→dx≠x→sp (.ref x :: (vs ++ dvs)) (upd (upd H dx (.own x)) x (.ins C dx [])) (fun v H2=>v=.non∧Q (.ref x) H2) E) :
  wpAny (model X.prog X.w) X.A (call (.ref C) us) (EP X pins σ Q) X.xe s:=by
 have hq:=h (s.heap.objs.size + 1) s.heap.objs.size (I.hok.fresh (Nat.le_succ _)) (I.hok.fresh (Nat.le_refl _)) (Nat.ne_of_lt (Nat.lt_succ_self _))
 have I2:=Inv.made (C:=C) I
 have r2:Vals (V.ref (s.heap.objs.size + 1) :: (vs ++ dvs)) (Value.ref (s.heap.objs.size + 1) :: (us ++ ds)):=.cons rfl (r.append hd)
 have hl:(Value.ref (s.heap.objs.size + 1) :: us ++ ds).length=ps.length:=by
  have e:=r2.length
  rw [F.len _ _ _ _ hq] at e
  exact e.symm
 refine wpAny_call (make_map (f:=f) I.kIn M.makes M.init (beq_iff_eq.mp M.fn) (codeAny_mono (F.run _ X.stack _ _ ⟨Value.ref (s.heap.objs.size + 1) :: us,[]⟩ (Value.ref (s.heap.objs.size + 1) :: (us ++ ds)) _ _ E (hr.make C us [])
  (I2.env0.make C us []) (hb _ (Value.ref (s.heap.objs.size + 1) :: us) I2.kIn hl) r2 hq) fun r s' hq'=>?_))
 cases r with
 | error e=>exact hx pins σ _ _ e s' I2 hq'
 | ok fl =>
  cases fl with
  | ret u =>
   obtain ⟨v,H',I3,rv,ev,q3⟩:=I2.after hq'
   subst ev
   exact ⟨rv,⟨V.ref (s.heap.objs.size + 1),H',I3,rfl,q3⟩⟩
  | next=>exact False.elim hq'
  | brk=>exact False.elim hq'
  | cont=>exact False.elim hq'
theorem pe_make0 (M:Mk X.K C f) (F:FnOk X.prog X.w X.K X.mg X.base CX k f fd ps sp) (hr:Room (k + 1) X.A) (hg:Gl X x) (hm:X.mg x=some (.ref C)) (hb:Binds X.K fd ps ds) (hd:Vals dvs ds) (hx:Passes CX X E)
  (hdb:(x == ("__debug__":Str))=false:=by decide):PE X (.Call (.Name x p) [] [] pos) (tMake C sp dvs E tNil):=by
 intro pins s σ H Q I h
 refine wpAny_Call_Name_kw (ld_glob I hg hm ?_ hdb)
 exact PySem.W.callWith_K0 I.kIn M.kp (run_make (us:=[]) M F hr hb hd hx I .nil h)
end
section
variable {X:Cx} {CX:CXT} {k:Nat} {f C:Addr} {fd:FuncData} {ps ks:List Str} {sp:Sp} {E:XK} {x m:Str} {p pos apos kpos:Pos} {e o:Expr} {es:List Expr} {kws:List Keyword} {te ta:TE} {t tk:TA} {nm:Option Str}
variable {g:List Value→List Value→List Value} {gV:List V→List V→List V}
end
structure FnScope (N P:List Str) (sc:Scope):Prop where
 kind:sc.kind=.function
 co:sc.isCoroutine=false
 gen:sc.isGenerator=false
 nd:N.Nodup
 pre:N.take P.length=P
 par:∀ x∈P,sc.names.lookup x=some .local∨sc.names.lookup x=some .cell
 nofree:∀ y∈sc.names,y.2≠.free
theorem bindL_out {kindOf:Str→Option NameKind} {x:Str}:∀ {binds:List (Str×Value)} {m:Str→Option Value},(∀ v,(x,v) ∉ binds)→bindL kindOf binds m x=m x
 | [],_,_=>rfl
 | (n,v) :: r,m,h=>by
  unfold bindL
  rw [bindL_out fun w hw=>h w (List.mem_cons_of_mem _ hw)]
  split
  ·have:x≠n:=by rintro rfl; exact h v List.mem_cons_self
   simp [this]
  ·rfl
theorem bindC_out {kindOf:Str→Option NameKind} {x:Str}:∀ {binds:List (Str×Value)} {m:Str→Option Value},(∀ v,(x,v) ∉ binds)→bindC kindOf binds m x=m x
 | [],_,_=>rfl
 | (n,v) :: r,m,h=>by
  unfold bindC
  rw [bindC_out fun w hw=>h w (List.mem_cons_of_mem _ hw)]
  split
  ·rfl
  ·have:x≠n:=by rintro rfl; exact h v List.mem_cons_self
   simp [this]
theorem bindL_get {kindOf:Str→Option NameKind} {x:Str} {v:Value}:∀ {P:List Str} {vs:List Value} {i:Nat} {m:Str→Option Value},P.Nodup→P[i]?=some x→vs[i]?=some v→kindOf x=some .local →
  bindL kindOf (P.zip vs) m x=some v
 | [],_,_,_,_,h,_,_=>by simp at h
 | _ :: _,[],_,_,_,_,h,_=>by simp at h
 | p :: P,w :: vs,0,m,nd,h1,h2,hk=>by
  simp at h1 h2; subst h1; subst h2
  show bindL kindOf ((p,w) :: P.zip vs) m p=_
  unfold bindL
  rw [bindL_out fun v hv=>(List.nodup_cons.mp nd).1 (List.of_mem_zip hv).1,if_pos hk]
  simp
 | p :: P,w :: vs,i + 1,m,nd,h1,h2,hk=>by
  show bindL kindOf ((p,w) :: P.zip vs) m x=_
  unfold bindL
  exact bindL_get (i:=i) (List.nodup_cons.mp nd).2 (by simpa using h1) (by simpa using h2) hk
theorem bindC_get {kindOf:Str→Option NameKind} {x:Str} {v:Value}:∀ {P:List Str} {vs:List Value} {i:Nat} {m:Str→Option Value},P.Nodup→P[i]?=some x→vs[i]?=some v→kindOf x≠some .local →
  bindC kindOf (P.zip vs) m x=some v
 | [],_,_,_,_,h,_,_=>by simp at h
 | _ :: _,[],_,_,_,_,h,_=>by simp at h
 | p :: P,w :: vs,0,m,nd,h1,h2,hk=>by
  simp at h1 h2; subst h1; subst h2
  show bindC kindOf ((p,w) :: P.zip vs) m p=_
  unfold bindC
  rw [bindC_out fun v hv=>(List.nodup_cons.mp nd).1 (List.of_mem_zip hv).1,if_neg hk]
  simp
 | p :: P,w :: vs,i + 1,m,nd,h1,h2,hk=>by
  show bindC kindOf ((p,w) :: P.zip vs) m x=_
  unfold bindC
  exact bindC_get (i:=i) (List.nodup_cons.mp nd).2 (by simpa using h1) (by simpa using h2) hk
noncomputable def start (N:List Str) (vs:List V):St:=vs.map some ++ List.replicate (N.length - vs.length) none
noncomputable def cxOf (CX:CXT) (P:Program) (w:World) (K:PySem.W.Frag) (mg:Str→Option Value) (base:Heap) (N:List Str) (qual:Str) (scope:Scope) (f:Addr) (cd:Value) (A:Around) (outer:List Env) (s:Shared) (H:Hp) (E:XK):Cx where
 prog:=P
 w:=w
 K:=K
 mg:=mg
 base:=base
 A:=A.deeper (envOfC qual scope s.heap.objs.size f cd)
 N:=N
 s₀:=s
 H₀:=H
 env:=envOfC qual scope s.heap.objs.size f cd
 outer:=outer
 stack:=envOfC qual scope s.heap.objs.size f cd :: outer
 ex:=[]
 calm:=true
 fn:=fun _=>true
 pn:=[]
 xe:=fun e s'=>wpAny (model P w) (A.deeper (envOfC qual scope s.heap.objs.size f cd)) («leaving» (envOfC qual scope s.heap.objs.size f cd) e) (fun _ s''=>CX outer H s E e s'') (fun e' s''=>CX outer H s E e' s'') s'
theorem cell_has {sc:Scope} {n:Nat} {x:Str} (h:sc.names.lookup x=some .cell):∃ c,(cellsFrom n sc.names []).lookup x=some c:=by
 have q:=PySem.W.cellsFrom_some sc.names n [] (.inl h)
 exact Option.isSome_iff_exists.mp q
theorem inv_start {CX:CXT} {P:Program} {w:World} {K:PySem.W.Frag} {mg:Str→Option Value} {base:Heap} {N ps:List Str} {qual:Str} {scope:Scope} {f:Addr} {cd:Value} {A:Around} {outer:List Env} {s s1:Shared} {H:Hp} {E:XK} {us:List Value} {vs:List V}
  (S:FnScope N ps scope) (hd:A.handled=none) (e0:Env0 P w K mg base A outer s H) (hl:vs.length=ps.length) (r:Vals vs us)
  (x:InCallC s s.heap.objs.size (bindL (envOfC qual scope s.heap.objs.size f cd).kindOf (ps.zip us) fun _=>none) (cellsFrom (s.heap.objs.size + 1) scope.names []) (bindC (envOfC qual scope s.heap.objs.size f cd).kindOf (ps.zip us) fun _=>none) s1) :
  Inv (cxOf CX P w K mg base N qual scope f cd A outer s H E) [] (start N vs) H s1:=by
 have hpl:ps.length≤N.length:=by have:=congrArg List.length S.pre; rw [List.length_take] at this; lia
 obtain ⟨h1,tk,rfl,hk⟩:=x.done
 have noA:∀ b:Addr,b ∉ (cxOf CX P w K mg base N qual scope f cd A outer s H E).ex:=fun b z=>absurd (show b∈([]:List Addr) from z) (by simp)
 refine ⟨⟨e0.mod,S.kind,rfl,rfl,Nat.le_refl _,fun y z c h1 h2=>?_,fun y hy=>?_,fun y c _ h=>?_,fun _=>hd,Around.frames_deeper e0.frames,.inr ⟨rfl,rfl⟩,fun b z=>absurd z (noA b),e0.bs,e0.bsz,fun b _ _=>noA b,fun b z=>absurd z (noA b),e0.funs,e0.frf⟩,
  rfl,e0.bare,Un.kept hk,⟨_,x.toInCall.ns,fun i y v h1 h2 h3=>?_⟩,fun y c h=>⟨_,x.cell y c h⟩,e0.hok.fresh (Nat.le_refl _),fun y c h=>?_,fun p hp=>absurd (show p∈([]:List (Addr×Obj)) from hp) (by simp),e0.hok.kept hk,?_⟩
 ·exact name_of_addr x.apart (PySem.mem_of_lookup h1) (PySem.mem_of_lookup h2)
 ·have hy:scope.names.lookup y=some .cell∨scope.names.lookup y=some .free:=hy
  rcases hy with hy | hy
  ·exact cell_has hy
  ·exact absurd rfl (S.nofree _ (PySem.mem_of_lookup hy))
 ·exact Nat.le_of_lt (x.above y c (PySem.mem_of_lookup h))
 ·have hi:i < vs.length:=by
   unfold start at h2
   by_cases hi:i < vs.length
   ·exact hi
   ·rw [List.getElem?_append_right (by simpa using hi)] at h2
    rw [List.getElem?_replicate] at h2
    split at h2 <;> cases h2
  have ha:vs[i]?=some v:=by
   unfold start at h2
   rw [List.getElem?_append_left (by simpa using hi),List.getElem?_map] at h2
   cases e:vs[i]? with
   | none=>rw [e] at h2; cases h2
   | some a=>rw [e] at h2; cases h2; rfl
  obtain ⟨u,hu,rv⟩:=r.get ha
  have hp:ps[i]?=some y:=by
   rw [← S.pre,List.getElem?_take_of_lt (by lia)]; exact h1
  have ndP:ps.Nodup:=by rw [← S.pre]; exact S.nd.sublist (List.take_sublist _ _)
  refine ⟨u,rv,?_⟩
  rcases S.par y (List.mem_of_getElem? hp) with k | k
  ·exact .inl ⟨k,bindL_get ndP hp hu k⟩
  ·obtain ⟨c,e⟩:=cell_has (n:=s.heap.objs.size + 1) k
   refine .inr ⟨.inl k,c,e,?_⟩
   have q:=x.cell y c e
   rw [bindC_get ndP hp hu (by show scope.names.lookup y≠_; rw [k]; decide)] at q
   exact q
 ·exact e0.hok.fresh (Nat.le_of_lt (x.above y c (PySem.mem_of_lookup h)))
 ·unfold start
  show _=N.length
  rw [List.length_append,List.length_map,List.length_replicate]
  lia
theorem fn_of {CX:CXT} {P:Program} {w:World} {K:PySem.W.Frag} {mg:Str→Option Value} {base:Heap} {k:Nat} {f:Addr} {name qual:Str} {params:Arguments} {body:List Stmt} {scope:Scope} {dV kV doc pm cdv ct oc:Value} {an od:Option Addr}
  {osl:Array (Option Value)} {N ps:List Str} {sp:Sp} (lk:K.lookup f=some ⟨oc,od,.func (PySem.W.fnOf name qual params body scope dV kV doc pm an cdv ct),osl⟩) (hcd:PySem.W.codeIn K cdv qual=true) (S:FnScope N ps scope)
  (len:∀ vs H Q E,sp vs H Q E→vs.length=ps.length)
  (hbody:∀ (A:Around) (outer:List Env) (s:Shared) (H:Hp) (vs:List V) (Q:VK) (E:XK),Room k (A.deeper (envOfC qual scope s.heap.objs.size f cdv))→sp vs H Q E →
   ∃ t,PSs (cxOf CX P w K mg base N qual scope f cdv A outer s H E) body t∧t { nx:=fun _ H'=>Q .non H',rt:=Q } (start N vs) H) :
  FnOk P w K mg base CX (k + 1) f (PySem.W.fnOf name qual params body scope dV kV doc pm an cdv ct) ps sp:=by
 refine ⟨len,fun A outer s H args us vs Q E hr e0 hb r hsp=>?_⟩
 have hl:=len _ _ _ _ hsp
 have KX:K.In s.heap:=e0.mod.kin.keeps fun b o e=>(e0.bs b o e).1
 have lim:s.heap.NoLimit:=e0.mod.nolimit.keeps fun b o e=>(e0.bs b o e).1
 have hkind:∀ y∈ps.zip us,scope.names.lookup y.1=some .local∨(scope.names.lookup y.1=some .cell∧((cellsFrom (s.heap.objs.size + 1) scope.names []).lookup y.1).isSome=true):=fun ⟨n,v⟩ hy=>by
  rcases S.par n (List.of_mem_zip hy).1 with q | q
  ·exact .inl q
  ·exact .inr ⟨q,PySem.W.cellsFrom_some _ _ _ (.inl q)⟩
 refine codeAny_call_function hr.depth (KX _ _ lk) rfl S.co S.gen rfl (PySem.W.codeRec_of KX hcd) (hb _ _ _ _ ?_)
 refine wpAny_newFunctionEnv_cells S.kind hkind fun env he s1 x=>?_
 subst he
 refine ⟨lim.keeps x.toInCall.keep,codeAny_func ?_⟩
 obtain ⟨t,ht,hq⟩:=hbody A outer s H vs Q E (hr.deeper _) hsp
 have I:Inv (cxOf CX P w K mg base N qual scope f cdv A outer s H E) [] (start N vs) H s1:=inv_start S hr.hd e0 hl r x
 refine wpAny_mono (ht [] s1 (start N vs) H _ I hq) (fun fl s' hs=>?_) fun e s' hs=>hs
 have fin:∀ {σ':St} {H':Hp} {v:V} {u:Value},Inv (cxOf CX P w K mg base N qual scope f cdv A outer s H E) [] σ' H' s'→RelV v u→Q v H'→CE outer P w H s Q u s' :=
  fun {σ' H' v u} J rv q=>⟨v,H',J.os,J.bare,J.base,J.hok,rv,q⟩
 cases fl with
 | ret u =>
  obtain ⟨v,σ',H',J,rv,q⟩:=hs
  exact fin J rv q
 | next =>
  obtain ⟨σ',H',J,q⟩:=hs
  exact fin (v:=V.non) (u:=Value.none) J rfl q
 | brk =>
  obtain ⟨_,_,_,q⟩:=hs
  exact False.elim q
 | cont =>
  obtain ⟨_,_,_,q⟩:=hs
  exact False.elim q
end L2
namespace L2
open PySem PySem.Spec PyProof.Rows
section
variable {X:Cx} {x:Str} {p pos:Pos} {e:Expr} {es:List Expr} {t:TA} {id T:String} {r:List V→Hp→VK→Prop}
noncomputable def tCB (r:List V→Hp→VK→Prop) (t:TA):TE:=fun σ H Q=>t σ H fun vs H1=>r vs H1 Q
theorem pe_callB (hc:CallR X (.builtin id) r) (hg:Gl X x) (hm:X.mg x=none) (hv:bootBuiltins x=some (.builtin id)) (ha:PA X (e :: es) t) (hn:x≠"__name__":=by decide) (hdb:(x == ("__debug__":Str))=false:=by decide)
  (he:starEach (e :: es) X.env=(false,eval e X.env) :: starEach es X.env:=by rfl) (hpl:(backTo pos (starEach es X.env)).any (·.1)=false:=by rfl):PE X (.Call (.Name x p) (e :: es) [] pos) (tCB r t):=by
 intro pins s σ H Q I h
 refine wpAny_Call_Name_kw (ld_blt I hg hm hv ?_ hn hdb)
 exact PyProof.Rows.callWith_builtin1 (thnA (ha pos pins s σ H _ I h) fun us s1 vs H1 I1 r1 q1=>hc pins s1 σ H1 vs us Q I1 r1 q1) he hpl
theorem pe_callTy (hc:CallR X (.type T) r) (hg:Gl X x) (hm:X.mg x=none) (hv:bootBuiltins x=some (.type T)) (ha:PA X (e :: es) t) (hn:x≠"__name__":=by decide) (hdb:(x == ("__debug__":Str))=false:=by decide)
  (he:starEach (e :: es) X.env=(false,eval e X.env) :: starEach es X.env:=by rfl) (hpl:(backTo pos (starEach es X.env)).any (·.1)=false:=by rfl):PE X (.Call (.Name x p) (e :: es) [] pos) (tCB r t):=by
 intro pins s σ H Q I h
 refine wpAny_Call_Name_kw (ld_blt I hg hm hv ?_ hn hdb)
 exact PyProof.Rows.callWith_type1 (thnA (ha pos pins s σ H _ I h) fun us s1 vs H1 I1 r1 q1=>hc pins s1 σ H1 vs us Q I1 r1 q1) he hpl
end
end L2
namespace L2
open PySem PySem.Spec PyProof.Rows
section
variable {κ:Type} [DecidableEq κ]
noncomputable def valV (kvs:List (κ×V)) (k:κ):Option V:=(kvs.find? fun kv=>decide (kv.1=k)).map (·.2)
noncomputable def putK (kvs:List (κ×V)) (k:κ) (v:V):List (κ×V) :=
 if (kvs.any fun kv=>decide (kv.1=k))=true then kvs.map (fun kv=>if kv.1=k then (kv.1,v) else kv) else kvs ++ [(k,v)]
theorem valV_pos {p:κ×V} {r:List (κ×V)} {k:κ} (e:p.1=k):valV (p :: r) k=some p.2:=by simp [valV,List.find?_cons,e]
theorem valV_neg {p:κ×V} {r:List (κ×V)} {k:κ} (e:¬ p.1=k):valV (p :: r) k=valV r k:=by simp [valV,List.find?_cons,e]
theorem valV_any (k:κ):∀ kvs:List (κ×V),(kvs.any fun kv=>decide (kv.1=k))=(valV kvs k).isSome
 | []=>rfl
 | p :: r=>by
  rw [List.any_cons]
  by_cases e:p.1=k
  ·simp only [valV_pos e,decide_eq_true e,Bool.true_or,Option.isSome_some]
  ·rw [valV_neg e,decide_eq_false e,Bool.false_or]; exact valV_any k r
theorem valV_map (k j:κ) (y:V):∀ kvs:List (κ×V),valV (kvs.map fun kv=>if kv.1=k then (kv.1,y) else kv) j=(valV kvs j).map fun x=>if j=k then y else x
 | []=>rfl
 | p :: r=>by
  have ih:=valV_map k j y r
  rw [List.map_cons]
  by_cases h:p.1=k
  ·rw [if_pos h]
   by_cases e:p.1=j
   ·rw [valV_pos (p:=(p.1,y)) e,valV_pos e,Option.map_some,if_pos (e.symm.trans h)]
   ·rw [valV_neg (p:=(p.1,y)) e,valV_neg e,ih]
  ·rw [if_neg h]
   by_cases e:p.1=j
   ·rw [valV_pos (p:=p) e,valV_pos e,Option.map_some,if_neg (fun z=>h (e.trans z))]
   ·rw [valV_neg (p:=p) e,valV_neg e,ih]
theorem valV_snoc (k j:κ) (y:V):∀ kvs:List (κ×V),valV kvs k=none→valV (kvs ++ [(k,y)]) j=if j=k then some y else valV kvs j
 | [],_=>by
  by_cases e:k=j
  ·rw [if_pos e.symm]; exact valV_pos (p:=(k,y)) e
  ·rw [if_neg (fun z=>e z.symm)]; exact valV_neg (p:=(k,y)) e
 | p :: r,hn=>by
  rw [List.cons_append]
  have hk:¬ p.1=k:=fun z=>by rw [valV_pos z] at hn; cases hn
  rw [valV_neg hk] at hn
  have ih:=valV_snoc k j y r hn
  by_cases e:p.1=j
  ·rw [valV_pos e,valV_pos e,if_neg (fun z=>hk (e.trans z))]
  ·rw [valV_neg e,valV_neg e,ih]
theorem valV_put (kvs:List (κ×V)) (k j:κ) (y:V):valV (putK kvs k y) j=if j=k then some y else valV kvs j:=by
 unfold putK
 by_cases a:(kvs.any fun kv=>decide (kv.1=k))=true
 ·rw [if_pos a,valV_map]
  rw [valV_any] at a
  by_cases e:j=k
  ·obtain ⟨x,hx⟩:=Option.isSome_iff_exists.mp a
   rw [if_pos e,e,hx,Option.map_some,if_pos rfl]
  ·rw [if_neg e]
   cases valV kvs j with
   | none=>rfl
   | some x=>rw [Option.map_some,if_neg e]
 ·rw [if_neg a]
  refine valV_snoc k j y kvs ?_
  rw [valV_any] at a
  cases q:valV kvs k with
  | none=>rfl
  | some x=>rw [q] at a; exact (a rfl).elim
theorem length_putK (kvs:List (κ×V)) (k:κ) (v:V):(putK kvs k v).length≤kvs.length + 1:=by
 unfold putK
 split
 ·rw [List.length_map]; lia
 ·rw [List.length_append,List.length_cons,List.length_nil]; lia
theorem RelO.isSome_eq {o:Option V} {u:Option Value} (r:RelO o u):o.isSome=u.isSome:=by
 cases o with
 | none=>cases u with
  | none=>rfl
  | some _=>exact (show False from r).elim
 | some _=>cases u with
  | none=>exact (show False from r).elim
  | some _=>rfl
theorem RelO.getD {o:Option V} {u:Option Value} {d:V} {d':Value} (r:RelO o u) (rd:RelV d d'):RelV (o.getD d) (u.getD d'):=by
 cases o with
 | none=>cases u with
  | none=>exact rd
  | some _=>exact (show False from r).elim
 | some _=>cases u with
  | none=>exact (show False from r).elim
  | some _=>exact r
theorem KV.val {kvs:List (κ×V)} {vs:List (κ×Value)} (r:KV kvs vs) (k:κ):RelO (valV kvs k) (valueAt vs k):=by
 unfold KV at r
 induction r with
 | nil=>exact True.intro
 | @cons p q ps qs h t ih =>
  obtain ⟨h1,h2⟩:=h
  by_cases e:p.1=k
  ·have e':q.1=k:=h1.symm.trans e
   have b:valueAt (q :: qs) k=some q.2:=by simp [valueAt,List.find?_cons,e']
   rw [valV_pos e,b]; exact h2
  ·have e':¬ q.1=k:=fun z=>e (h1.trans z)
   have b:valueAt (q :: qs) k=valueAt qs k:=by simp [valueAt,List.find?_cons,e']
   rw [valV_neg e,b]; exact ih
theorem KV.any {kvs:List (κ×V)} {vs:List (κ×Value)} (r:KV kvs vs) (k:κ):(kvs.any fun kv=>decide (kv.1=k))=vs.any fun kv=>decide (kv.1=k):=by
 unfold KV at r
 induction r with
 | nil=>rfl
 | cons h t ih=>rw [List.any_cons,List.any_cons,ih,h.1]
theorem KV.repl {kvs:List (κ×V)} {vs:List (κ×Value)} (r:KV kvs vs) (k:κ) {y:V} {u:Value} (ry:RelV y u) :
  KV (kvs.map fun kv=>if kv.1=k then (kv.1,y) else kv) (vs.map fun kv=>if kv.1=k then (kv.1,u) else kv):=by
 unfold KV at r ⊢
 induction r with
 | nil=>exact .nil
 | @cons p q ps qs h t ih =>
  rw [List.map_cons,List.map_cons]
  refine .cons ?_ ih
  obtain ⟨h1,h2⟩:=h
  by_cases e:p.1=k
  ·rw [if_pos e,if_pos (h1.symm.trans e)]; exact ⟨h1,ry⟩
  ·rw [if_neg e,if_neg (fun z=>e (h1.trans z))]; exact ⟨h1,h2⟩
theorem KV.put {kvs:List (κ×V)} {vs:List (κ×Value)} (r:KV kvs vs) (k:κ) {y:V} {u:Value} (ry:RelV y u):KV (putK kvs k y) (stored vs k u):=by
 unfold putK stored
 rw [r.any k]
 by_cases e:(vs.any fun kv=>decide (kv.1=k))=true
 ·rw [if_pos e,if_pos e]; exact r.repl k ry
 ·rw [if_neg e,if_neg e]; exact Paired.snoc r ⟨rfl,ry⟩
theorem KV.length {kvs:List (κ×V)} {vs:List (κ×Value)} (r:KV kvs vs):kvs.length=vs.length:=Paired.length r
end
theorem kV_is {P:Program} {w:World} {k:Key} {u:Value} (r:RelV (kV k) u):(mixKind P w).is k u=true:=by
 cases k with
 | inl i=>obtain ⟨t,e⟩:=(show ∃ t,u=Value.int i t from r); subst e; exact mixKind_int P w i t
 | inr x=>obtain ⟨t,e⟩:=(show ∃ t,u=Value.str x t from r); subst e; exact mixKind_str P w x t
theorem kV_inj {a b:Key} (e:kV a=kV b):a=b:=by
 cases a with
 | inl i=>cases b with
  | inl j=>have e':V.int i=V.int j:=e; injection e' with e'; rw [e']
  | inr y=>exact nomatch (show V.int i=V.str y from e)
 | inr x=>cases b with
  | inl j=>exact nomatch (show V.str x=V.int j from e)
  | inr y=>have e':V.str x=V.str y:=e; injection e' with e'; rw [e']
theorem kVs_inj:∀ {a b:List Key},a.map kV=b.map kV→a=b
 | [],[],_=>rfl
 | [],_ :: _,e=>by simp at e
 | _ :: _,[],e=>by simp at e
 | x :: xs,y :: ys,e=>by
  rw [List.map_cons,List.map_cons] at e
  injection e with e1 e2
  rw [kV_inj e1,kVs_inj e2]
theorem items_are {P:Program} {w:World}:∀ {ks:List Key} {us:List Value},Vals (ks.map kV) us→ItemsAre (mixKind P w) ks us
 | [],_,r=>by rw [List.map_nil] at r; cases r; exact .nil
 | k :: ks,_,r=>by
  rw [List.map_cons] at r
  cases r with
  | cons h t=>exact .cons (kV_is h) (items_are t)
noncomputable abbrev KT (H:Hp):List (List Key×V)→List (List Key×Addr×Value)→Prop:=Paired fun p q=>p.1=q.1∧H q.2.1=some (.tup (p.1.map kV))∧RelV p.2 q.2.2
theorem KT.val {H:Hp} {kvs:List (List Key×V)} {xs:List (List Key×Addr×Value)} (r:KT H kvs xs) (k:List Key):RelO (valV kvs k) ((atKey xs k).map (·.2)):=by
 induction r with
 | nil=>exact True.intro
 | @cons p q ps qs h t ih =>
  obtain ⟨h1,_,h2⟩:=h
  by_cases e:p.1=k
  ·have e':q.1=k:=h1.symm.trans e
   have b:atKey (q :: qs) k=some q.2:=by simp [atKey,List.find?_cons,e']
   rw [valV_pos e,b]; exact h2
  ·have e':¬ q.1=k:=fun z=>e (h1.trans z)
   have b:atKey (q :: qs) k=atKey qs k:=by simp [atKey,List.find?_cons,e']
   rw [valV_neg e,b]; exact ih
theorem KT.repl {H:Hp} {kvs:List (List Key×V)} {xs:List (List Key×Addr×Value)} (r:KT H kvs xs) (k:List Key) {y:V} {u:Value} (ry:RelV y u) :
  KT H (kvs.map fun kv=>if kv.1=k then (kv.1,y) else kv) (xs.map (putAt k u)):=by
 induction r with
 | nil=>exact .nil
 | @cons p q ps qs h t ih =>
  rw [List.map_cons,List.map_cons]
  refine .cons ?_ ih
  obtain ⟨h1,h2,h3⟩:=h
  unfold putAt
  by_cases e:p.1=k
  ·rw [if_pos e,if_pos (h1.symm.trans e)]; exact ⟨h1,h2,ry⟩
  ·rw [if_neg e,if_neg (fun z=>e (h1.trans z))]; exact ⟨h1,h2,h3⟩
theorem KT.put {H:Hp} {kvs:List (List Key×V)} {xs:List (List Key×Addr×Value)} (r:KT H kvs xs) (k:List Key) {b:Addr} {y:V} {u:Value} (hb:H b=some (.tup (k.map kV))) (ry:RelV y u) :
  KT H (putK kvs k y) (storedH xs k b u):=by
 have e:(kvs.any fun kv=>decide (kv.1=k))=(atKey xs k).isSome:=by
  rw [valV_any,(r.val k).isSome_eq,Option.isSome_map]
 unfold putK storedH
 rw [e]
 by_cases q:(atKey xs k).isSome=true
 ·rw [if_pos q,if_pos q]; exact r.repl k ry
 ·rw [if_neg q,if_neg q]; exact Paired.snoc r ⟨rfl,hb,ry⟩
theorem KT.keeps {H H':Hp} {kvs:List (List Key×V)} {xs:List (List Key×Addr×Value)} (r:KT H kvs xs) (ht:∀ b ys,H b=some (.tup ys)→H' b=some (.tup ys)):KT H' kvs xs :=
 Paired.mapP r fun _ _ z=>⟨z.1,ht _ _ z.2.1,z.2.2⟩
section
variable {P:Program} {w:World} {H:Hp} {h:Heap} {a:Addr}
theorem rd_of {u:HO} (ok:HOk P w H h) (e:Rd H a u):ObjOk P w H h a u:=e.ok ok
theorem dk_rd {kvs:List (Key×V)} (ok:HOk P w H h) (e:Rd H a (.dK kvs)):kvs.length≤sizeLine∧(a == sysModules)=false∧∃ vs,KV kvs vs∧h.DictOf (mixKind P w) a vs :=
 show ObjOk P w H h a (.dK kvs) from rd_of ok e
theorem dk_of {kvs:List (Key×V)} (ok:HOk P w H h) (e:H a=some (.dK kvs)):kvs.length≤sizeLine∧(a == sysModules)=false∧∃ vs,KV kvs vs∧h.DictOf (mixKind P w) a vs:=dk_rd ok (.inl e)
theorem key_of {ks:List Key} (ok:HOk P w H h) (e:H a=some (.tup (ks.map kV))):(tupleKind (mixKind P w)).is h ks a:=by
 obtain ⟨_,its,r,o,h1,h2,n,h3⟩:=(show ObjOk P w H h a (.tup (ks.map kV)) from ok a _ e)
 exact ⟨o,its.toArray,n,h1,h2,h3,by simpa using items_are r⟩
theorem dt_rd {kvs:List (List Key×V)} (ok:HOk P w H h) (e:Rd H a (.dT kvs)):kvs.length≤sizeLine∧(a == sysModules)=false ∧
  ∃ xs,KT H kvs xs∧h.DictOfH (tupleKind (mixKind P w)) a xs:=by
 obtain ⟨z,y,xs,r,o,es,ep,h1,h2,h3,h4,h5⟩:=(show ObjOk P w H h a (.dT kvs) from rd_of ok e)
 refine ⟨z,y,xs,r,o,es,ep,h1,h2,h3,h4,fun x hx=>?_,h5⟩
 have all:∀ {l:List (List Key×V)} {m:List (List Key×Addr×Value)},KT H l m→∀ x∈m,(tupleKind (mixKind P w)).is h x.1 x.2.1:=by
  intro l m q
  induction q with
  | nil=>intro x hx; exact nomatch hx
  | @cons p q ps qs hq t ih =>
   intro x hx
   rcases List.mem_cons.mp hx with e | hx
   ·subst e
    exact key_of ok (by rw [← hq.1]; exact hq.2.1)
   ·exact ih x hx
 exact all r x hx
theorem dt_of {kvs:List (List Key×V)} (ok:HOk P w H h) (e:H a=some (.dT kvs)):kvs.length≤sizeLine∧(a == sysModules)=false ∧
  ∃ xs,KT H kvs xs∧h.DictOfH (tupleKind (mixKind P w)) a xs:=dt_rd ok (.inl e)
end
noncomputable def DGet (H:Hp) (a:Addr) (y:V) (r:Option V):Prop :=
 (Ex_2_3 (fun kvs k=>Rd H a (.dK kvs)) (fun kvs k=>y=kV k) (fun kvs k=>r=valV kvs k))∨Ex_3_4 (fun kvs k b=>Rd H a (.dT kvs)) (fun kvs k b=>y=.ref b) (fun kvs k b=>H b=some (.tup (k.map kV))) (fun kvs k b=>r=valV kvs k)
noncomputable def DPut (H:Hp) (a:Addr) (y v:V) (H':Hp):Prop :=
 (Ex_2_4 (fun kvs k=>H a=some (.dK kvs)) (fun kvs k=>y=kV k) (fun kvs k=>kvs.length < sizeLine) (fun kvs k=>H'=upd H a (.dK (putK kvs k v)))) ∨
 Ex_3_5 (fun kvs k b=>H a=some (.dT kvs)) (fun kvs k b=>y=.ref b) (fun kvs k b=>H b=some (.tup (k.map kV))) (fun kvs k b=>kvs.length < sizeLine) (fun kvs k b=>H'=upd H a (.dT (putK kvs k v)))
theorem DGet.k {H:Hp} {a:Addr} {kvs:List (Key×V)} {k:Key} (e:H a=some (.dK kvs)):DGet H a (kV k) (valV kvs k):=.inl ⟨kvs,k,.inl e,rfl,rfl⟩
theorem DGet.t {H:Hp} {a b:Addr} {kvs:List (List Key×V)} {k:List Key} (e:H a=some (.dT kvs)) (eb:H b=some (.tup (k.map kV))):DGet H a (.ref b) (valV kvs k):=.inr ⟨kvs,k,b,.inl e,rfl,eb,rfl⟩
theorem DPut.k {H:Hp} {a:Addr} {kvs:List (Key×V)} {k:Key} {v:V} (e:H a=some (.dK kvs)) (hl:kvs.length < sizeLine):DPut H a (kV k) v (upd H a (.dK (putK kvs k v))):=.inl ⟨kvs,k,e,rfl,hl,rfl⟩
theorem DPut.t {H:Hp} {a b:Addr} {kvs:List (List Key×V)} {k:List Key} {v:V} (e:H a=some (.dT kvs)) (eb:H b=some (.tup (k.map kV))) (hl:kvs.length < sizeLine) :
  DPut H a (.ref b) v (upd H a (.dT (putK kvs k v))):=.inr ⟨kvs,k,b,e,rfl,eb,hl,rfl⟩
section
variable {X:Cx} {pins:List (Addr×Obj)} {σ:St} {H:Hp} {s:Shared} {a:Addr} {y v:V} {u r:Value} {o:Option V} {A:Around} {E:Value→Shared→Prop}
theorem Inv.big (I:Inv X pins σ H s):sysModules < s.heap.objs.size:=by
 have h:mainGlobals < s.heap.objs.size:=(I.mod.glob.keeps I.bk).lt
 exact Nat.lt_trans (by decide) h
theorem d_getItem {Q:Value→Shared→Prop} (hu:A.units + 1 < cLine) (I:Inv X pins σ H s) (g:DGet H a y (some v)) (ry:RelV y u) (h:∀ w' s',Inv X pins σ H s'→RelV v w'→Q w' s') :
  wpAny (model X.prog X.w) A (getItem (.ref a) u) Q E s:=by
 rcases g with ⟨kvs,k,e,ey,l⟩ | ⟨kvs,k,b,e,ey,eb,l⟩
 ·subst ey
  obtain ⟨z,hd,vs,rel,dd⟩:=dk_rd I.hok e
  obtain ⟨w',hw,rw'⟩:=RelO.some_of (v:=v) (o:=valueAt vs k) (by rw [l]; exact rel.val k)
  exact wpAny_getItem_of (kV_is ry) dd.mapOf hw (h w' _ (I.tok _) rw')
 ·subst ey
  cases (show u=Value.ref b from ry)
  obtain ⟨z,hd,xs,rel,dd⟩:=dt_rd I.hok e
  obtain ⟨w',hw,rw'⟩:=RelO.some_of (v:=v) (o:=(atKey xs k).map (·.2)) (by rw [l]; exact rel.val k)
  obtain ⟨p,hp,hp2⟩:=Option.map_eq_some_iff.mp hw
  refine wpAny_getItem_heap (tupleKind_room_in1 hu) (key_of I.hok eb) dd hp ?_
  rw [hp2]
  exact h w' _ (I.tok _) rw'
theorem d_in {Q:Value→Shared→Prop} (hu:A.units + 1 < cLine) (I:Inv X pins σ H s) (g:DGet H a y o) (ry:RelV y u) (h:∀ s',Inv X pins σ H s'→Q (.bool o.isSome) s') :
  wpAny (model X.prog X.w) A (compareOp .In u (.ref a)) Q E s:=by
 rcases g with ⟨kvs,k,e,ey,l⟩ | ⟨kvs,k,b,e,ey,eb,l⟩
 ·subst ey
  obtain ⟨z,hd,vs,rel,dd⟩:=dk_rd I.hok e
  refine wpAny_in_of (kV_is ry) hd dd.mapOf ?_
  rw [← (rel.val k).isSome_eq,← l]
  exact h _ (I.tok _)
 ·subst ey
  cases (show u=Value.ref b from ry)
  obtain ⟨z,hd,xs,rel,dd⟩:=dt_rd I.hok e
  refine wpAny_in_heap (tupleKind_room_in1 hu) (key_of I.hok eb) hd dd ?_
  have q:=(rel.val k).isSome_eq
  rw [Option.isSome_map] at q
  rw [← q,← l]
  exact h _ (I.tok _)
theorem d_notIn {Q:Value→Shared→Prop} (hu:A.units + 1 < cLine) (I:Inv X pins σ H s) (g:DGet H a y o) (ry:RelV y u) (h:∀ s',Inv X pins σ H s'→Q (.bool (!o.isSome)) s') :
  wpAny (model X.prog X.w) A (compareOp .NotIn u (.ref a)) Q E s:=by
 rcases g with ⟨kvs,k,e,ey,l⟩ | ⟨kvs,k,b,e,ey,eb,l⟩
 ·subst ey
  obtain ⟨z,hd,vs,rel,dd⟩:=dk_rd I.hok e
  refine wpAny_notIn_of (kV_is ry) hd dd.mapOf ?_
  rw [← (rel.val k).isSome_eq,← l]
  exact h _ (I.tok _)
 ·subst ey
  cases (show u=Value.ref b from ry)
  obtain ⟨z,hd,xs,rel,dd⟩:=dt_rd I.hok e
  refine wpAny_notIn_heap (tupleKind_room_in1 hu) (key_of I.hok eb) hd dd ?_
  have q:=(rel.val k).isSome_eq
  rw [Option.isSome_map] at q
  rw [← q,← l]
  exact h _ (I.tok _)
theorem d_write {h':Heap} {t':Nat} {ob:HO} (I:Inv X pins σ H s) (mu:Mut (H a)) (hs:Heap.SameBut a s.heap h') (he:∃ q,h'.get? a=some q) (new:ObjOk X.prog X.w (upd H a ob) h' a ob) :
  Inv X pins σ (upd H a ob) { s with heap:=h',toks:=t' } :=
 I.write (x:=a) (e:=a) mu (.inl rfl) (fun b q hb z=>(hs.2 b hb).trans z) he new
theorem dk_new {P:Program} {w:World} {H':Hp} {h':Heap} {kvs:List (Key×V)} {vs:List (Key×Value)} (z:kvs.length≤sizeLine) (hd:(a == sysModules)=false) (rel:KV kvs vs) (dd:h'.DictOf (mixKind P w) a vs) :
  ObjOk P w H' h' a (.dK kvs):=⟨z,hd,vs,rel,dd⟩
theorem d_setItem {H':Hp} {Q:Unit→Shared→Prop} (hu:A.units + 1 < cLine) (I:Inv X pins σ H s) (g:DPut H a y v H') (ry:RelV y u) (rv:RelV v r) (h:∀ s',Inv X pins σ H' s'→Q () s') :
  wpAny (model X.prog X.w) A (setItem (.ref a) u r) Q E s:=by
 rcases g with ⟨kvs,k,e,ey,l,eH⟩ | ⟨kvs,k,b,e,ey,eb,l,eH⟩
 ·subst ey eH
  obtain ⟨z,hd,vs,rel,dd⟩:=dk_of I.hok e
  have hz:vs.length≤sizeLine:=by rw [← rel.length]; exact z
  have hl:(putK kvs k v).length≤sizeLine:=by have:=length_putK kvs k v; lia
  refine wpAny_setItem_pairs (hsz:=hz) (kV_is ry) dd fun h' dd' hs=>h _ ?_
  have he:∃ q,h'.get? a=some q:=let ⟨q,_,_,hq,_⟩:=dd'; ⟨q,hq⟩
  exact d_write I (by rw [e]; exact True.intro) hs he (dk_new hl hd (rel.put k rv) dd')
 ·subst ey eH
  cases (show u=Value.ref b from ry)
  obtain ⟨z,hd,xs,rel,dd⟩:=dt_of I.hok e
  have hz:xs.length≤sizeLine:=by rw [← Paired.length rel]; exact z
  have hl:(putK kvs k v).length≤sizeLine:=by have:=length_putK kvs k v; lia
  refine wpAny_setItem_heap (hsz:=hz) (tupleKind_room_in1 hu) (key_of I.hok eb) dd fun h' dd' hs=>h _ ?_
  obtain ⟨q,es,ep,hq,h2,h3,h4,_,h5⟩:=dd'
  refine d_write I (by rw [e]; exact True.intro) hs ⟨q,hq⟩ ⟨hl,hd,_,(rel.put k eb rv).keeps fun c ys ec=>?_,q,es,ep,hq,h2,h3,h4,h5⟩
  rw [upd_ne (ne_of ec e (fun z=>nomatch z))]
  exact ec
end
section
variable {X:Cx} {pins:List (Addr×Obj)} {σ:St} {H:Hp} {s:Shared} {a:Addr} {kvs:List (Key×V)} {k:Key} {u:Value} {A:Around} {E:Value→Shared→Prop}
end
noncomputable def NoSl (i:Expr):Prop:=∀ ov iv,subscripted i false ov iv=operate [ov,iv] (getItem ov iv)
theorem subD_of {prog:Program} {w:World} {A:Around} {E:Value→Shared→Prop} {s:Shared} {env:Env} {value slice:Expr} {pos:Pos} {T id:String} {Q:Value→Shared→Prop}
  (hl:typeLookup (.type T) "__getitem__"=pure (some (.builtin id))) (hs:NoSl slice)
  (h:wpAny (model prog w) A (eval value env) (fun o s₁=>wpAny (model prog w) A (eval slice env) (fun i s₂=>s₂.TypeIs o T∧wpAny (model prog w) A (getItem o i) Q E s₂) E s₁) E s) :
  wpAny (model prog w) A (eval (.Subscript value slice pos) env) Q E s:=by
 refine Subscript_ (wpAny_mono h (fun o s₁ h₁=>wpAny_mono h₁ (fun i s₂ h₂=>?_) fun _ _ x=>x) fun _ _ x=>x)
 obtain ⟨hT,h₂⟩:=h₂
 unfold subscriptTail
 refine wpAny_bind ?_
 rw [getitemInPython_of_ne hT.not_modules]
 refine wpAny_bind (wpAny_specialOf hT hl ?_)
 have fin:wpAny (model prog w) A (subscripted slice false o i) (fun r s₃=>wpAny (model prog w) A (letTemporaryGo value o r >>= fun _=>pure r) Q E s₃) E s₂:=by
  rw [hs o i]
  exact wpAny_operating (wpAny_mono h₂ (fun r s₃ h₃=>wpAny_bind (wpAny_letTemporaryGo (wpAny_pure h₃))) fun _ _ x=>x)
 first
  | exact wpAny_pure (wpAny_bind fin)
  | exact wpAny_bind (wpAny_pure (wpAny_bind fin))
  | exact wpAny_bind fin
theorem dict_typeIs {X:Cx} {pins:List (Addr×Obj)} {σ:St} {H:Hp} {s:Shared} {a:Addr} {y:V} {o:Option V} (I:Inv X pins σ H s) (g:DGet H a y o):s.TypeIs (.ref a) "dict":=by
 rcases g with ⟨kvs,k,e,_,_⟩ | ⟨kvs,k,b,e,_,_,_⟩
 ·obtain ⟨_,_,vs,_,dd⟩:=dk_rd I.hok e
  exact dd.typeIs
 ·obtain ⟨_,_,xs,_,dd⟩:=dt_rd I.hok e
  exact dd.typeIs
noncomputable def tDGet (td ty:TE):TE:=fun σ H Q=>td σ H fun x H1=>ty σ H1 fun y H2=>Ex_2_3 (fun a v=>x=.ref a) (fun a v=>DGet H2 a y (some v)) (fun a v=>Q v H2)
noncomputable def tDIn (ty td:TE):TE:=fun σ H Q=>ty σ H fun y H1=>td σ H1 fun x H2=>Ex_2_3 (fun a o=>x=.ref a) (fun a o=>DGet H2 a y o) (fun a o=>Q (.bl o.isSome) H2)
noncomputable def tDNotIn (ty td:TE):TE:=fun σ H Q=>ty σ H fun y H1=>td σ H1 fun x H2=>Ex_2_3 (fun a o=>x=.ref a) (fun a o=>DGet H2 a y o) (fun a o=>Q (.bl (!o.isSome)) H2)
noncomputable def sDPut (td ty tv:TE):TS:=fun D σ H=>tv σ H fun v H1=>td σ H1 fun x H2=>ty σ H2 fun y H3=>Ex_2_3 (fun a H4=>x=.ref a) (fun a H4=>DPut H3 a y v H4) (fun a H4=>D.nx σ H4)
section
variable {X:Cx} {o i e value:Expr} {pos pos' tpos:Pos} {td ty tv:TE}
theorem pe_dget (hu:X.A.units + 1 < cLine) (ho:PE X o td) (hi:PE X i ty) (hs:NoSl i):PE X (.Subscript o i pos) (tDGet td ty):=by
 intro pins s σ H Q I h
 refine subD_of PySem.F.slot_dict_getitem.lookup hs (thnE (ho pins s σ H _ I h) fun u s1 x H1 I1 rx q1=>thnE (hi pins s1 σ H1 _ I1 q1) fun iv s2 y H2 I2 ry qz10=>?_)
 obtain ⟨a,v,ex,g,q2⟩:=qz10
 subst ex
 obtain rfl:u=Value.ref a:=rx
 exact ⟨dict_typeIs I2 g,d_getItem hu I2 g ry fun w' s3 I3 rw'=>⟨v,H2,I3,rw',q2⟩⟩
theorem pc_din (hu:X.A.units + 1 < cLine) (hi:PE X i ty) (ho:PE X o td):PC X .In i o (tDIn ty td):=by
 intro pins s σ H Q I h
 refine thnE (hi pins s σ H _ I h) fun iv s1 y H1 I1 ry q1=>thnE (ho pins s1 σ H1 _ I1 q1) fun u s2 x H2 I2 rx qz11=>?_
 obtain ⟨a,ov,ex,g,q2⟩:=qz11
 subst ex
 obtain rfl:u=Value.ref a:=rx
 exact d_in hu I2 g ry fun s3 I3=>⟨.bl ov.isSome,H2,I3,rfl,q2⟩
theorem pc_dnotin (hu:X.A.units + 1 < cLine) (hi:PE X i ty) (ho:PE X o td):PC X .NotIn i o (tDNotIn ty td):=by
 intro pins s σ H Q I h
 refine thnE (hi pins s σ H _ I h) fun iv s1 y H1 I1 ry q1=>thnE (ho pins s1 σ H1 _ I1 q1) fun u s2 x H2 I2 rx qz12=>?_
 obtain ⟨a,ov,ex,g,q2⟩:=qz12
 subst ex
 obtain rfl:u=Value.ref a:=rx
 exact d_notIn hu I2 g ry fun s3 I3=>⟨.bl (!ov.isSome),H2,I3,rfl,q2⟩
theorem ps_dput (hu:X.A.units + 1 < cLine) (ho:PE X o td) (hi:PE X i ty) (hv:PE X value tv) (hs:swapsWith value (some (.Subscript o i pos')) pos.line X.env=pure false) :
  PS X (.Assign [.Subscript o i pos'] value pos) (sDPut td ty tv):=by
 intro pins s σ H D I h
 refine wpAny_Assign_Subscript (thnE (hv pins s σ H _ I h) fun r s1 v H1 I1 rv q1=>thnE (ho pins s1 σ H1 _ I1 q1) fun u s2 x H2 I2 rx q2=>thnE (hi pins s2 σ H2 _ I2 q2) fun iv s3 y H3 I3 ry qz13=>?_) hs
 obtain ⟨a,H4,ex,g,q3⟩:=qz13
 subst ex
 obtain rfl:u=Value.ref a:=rx
 exact d_setItem hu I3 g ry rv fun s4 I4=>⟨σ,H4,I4,q3⟩
end
theorem dk_empty {P:Program} {w:World} {H:Hp} (h:Heap) (hb:sysModules < h.objs.size):ObjOk P w H (h.push { cls:=.type "dict",data:=.dict #[] }) h.objs.size (.dK []) :=
 ⟨Nat.zero_le _,beq_eq_false_iff_ne.mpr (Ne.symm (Nat.ne_of_lt hb)),[],.nil,Heap.DictOf.new h⟩
theorem dt_empty {P:Program} {w:World} {H:Hp} (h:Heap) (hb:sysModules < h.objs.size):ObjOk P w H (h.push { cls:=.type "dict",data:=.dict #[] }) h.objs.size (.dT []) :=
 ⟨Nat.zero_le _,beq_eq_false_iff_ne.mpr (Ne.symm (Nat.ne_of_lt hb)),[],.nil,_,#[],0,Heap.get?_push_size _ rfl,⟨rfl,rfl,rfl⟩,rfl,rfl,List.nodup_nil⟩
noncomputable def tDNewK:TE:=fun _ H Q=>∀ p,H p=none→Q (.ref p) (upd H p (.dK []))
noncomputable def tDNewT:TE:=fun _ H Q=>∀ p,H p=none→Q (.ref p) (upd H p (.dT []))
section
variable {X:Cx} {pos:Pos}
theorem pe_dnewK:PE X (.Dict [] [] pos) tDNewK:=fun pins s σ H Q I h =>
 wpAny_Dict_empty ⟨.ref s.heap.objs.size,_,I.laid (a:=s.heap.objs.size) (o:=.dK []) (t':=s.toks) (fun _ _ q=>Heap.get?_push_of_some _ q) (Nat.le_refl _) (dk_empty s.heap I.big),rfl,h _ (I.hok.fresh (Nat.le_refl _))⟩
theorem pe_dnewT:PE X (.Dict [] [] pos) tDNewT:=fun pins s σ H Q I h =>
 wpAny_Dict_empty ⟨.ref s.heap.objs.size,_,I.laid (a:=s.heap.objs.size) (o:=.dT []) (t':=s.toks) (fun _ _ q=>Heap.get?_push_of_some _ q) (Nat.le_refl _) (dt_empty s.heap I.big),rfl,h _ (I.hok.fresh (Nat.le_refl _))⟩
end
structure M2 (X:Cx) (o:Expr) (m:Str) (apos:Pos) (e f:Expr) (cpos:Pos):Prop where
 base:attributeBase o m X.env (eval o X.env)=eval o X.env
 few:((backTo cpos (starEach [e,f] X.env)).all (fun x=>!x.1) && (backToKw cpos (keywordEach [] X.env)).all (fun x=>x.1.isSome)
  && decide (([e,f]:List Expr).length + ([]:List Keyword).length + (if ([]:List Keyword).isEmpty then 0 else 1) < 30))=true
 line:(apos.endLine == cpos.line)=true
 trees:backTo cpos (starEach [e,f] X.env)=[(false,eval e X.env),(false,eval f X.env)]
noncomputable def IsD (H:Hp) (a:Addr):Prop:=(∃ kvs,Rd H a (.dK kvs))∨∃ kvs,Rd H a (.dT kvs)
theorem isD_at {X:Cx} {pins:List (Addr×Obj)} {σ:St} {H:Hp} {s:Shared} {a:Addr} (I:Inv X pins σ H s) (d:IsD H a) :
  s.TypeIs (.ref a) "dict"∧(∀ b,Value.ref a=.ref b→∃ ob,s.heap.get? b=some ob∧ob.dict=none)∧(a == sysModules)=false:=by
 rcases d with ⟨kvs,e⟩ | ⟨kvs,e⟩
 ·obtain ⟨_,hd,vs,_,dd⟩:=dk_rd I.hok e
  refine ⟨dd.typeIs,fun b q=>?_,hd⟩
  cases q
  obtain ⟨ob,_,_,h1,h2,_⟩:=dd
  exact ⟨ob,h1,h2.2.1⟩
 ·obtain ⟨_,hd,xs,_,dd⟩:=dt_rd I.hok e
  refine ⟨dd.typeIs,fun b q=>?_,hd⟩
  cases q
  obtain ⟨ob,_,_,h1,h2,_⟩:=dd
  exact ⟨ob,h1,h2.2.1⟩
section
variable {X:Cx} {pins:List (Addr×Obj)} {σ:St} {H:Hp} {s:Shared} {a:Addr} {y d:V} {u r:Value} {o:Option V} {A:Around} {E:Value→Shared→Prop}
theorem d_get2 {Q:Value→Shared→Prop} (hu:A.units + 1 < cLine) (I:Inv X pins σ H s) (g:DGet H a y o) (ry:RelV y u) (rd:RelV d r) (h:∀ w' s',Inv X pins σ H s'→RelV (o.getD d) w'→Q w' s') :
  wpAny (model X.prog X.w) A (call (.builtin "dict.get") [.ref a,u,r]) Q E s:=by
 rcases g with ⟨kvs,k,e,ey,l⟩ | ⟨kvs,k,b,e,ey,eb,l⟩
 ·subst ey
  obtain ⟨z,hd,vs,rel,dd⟩:=dk_rd I.hok e
  refine call_meetsIn PySem.F.slot_dict_get dd.typeIs PySem.F.entry_dict_get (PySem.F.args_dict_get_3 _ _ _) (meets_dict_get_default (mixKind X.prog X.w) a (kV_is ry) hd r) ⟨_,dd.mapOf,h _ _ (I.tok _) ?_⟩
  rw [l]
  exact (rel.val k).getD rd
 ·subst ey
  cases (show u=Value.ref b from ry)
  obtain ⟨z,hd,xs,rel,dd⟩:=dt_rd I.hok e
  refine call_meetsIn PySem.F.slot_dict_get dd.typeIs PySem.F.entry_dict_get (PySem.F.args_dict_get_3 _ _ _) (meetsH_dict_get_default (tupleKind (mixKind X.prog X.w)) a b hd r) ⟨tupleKind_room_in1 hu,k,xs,key_of I.hok eb,dd,h _ _ (I.tok _) ?_⟩
  rw [l]
  exact (rel.val k).getD rd
end
noncomputable def tDGet2 (td ty tx:TE):TE:=fun σ H Q=>td σ H fun x H1=>Ex_1_3 (fun a=>x=.ref a) (fun a=>IsD H1 a) (fun a=>ty σ H1 fun y H2=>tx σ H2 fun z H3=>Ex_1_2 (fun o=>DGet H3 a y o) (fun o=>Q (o.getD z) H3))
section
variable {X:Cx} {o e f:Expr} {apos cpos:Pos} {td ty tx:TE}
theorem pe_dget2 (hu:X.A.units + 1 < cLine) (ho:PE X o td) (he:PE X e ty) (hf:PE X f tx) (m:M2 X o "get" apos e f cpos):PE X (.Call (.Attribute o "get" apos) [e,f] [] cpos) (tDGet2 td ty tx):=by
 intro pins s σ H Q I h
 refine wpAny_Call_method m.base m.few m.line PySem.F.plainAttrs_dict PySem.F.slot_dict_get PySem.F.type_dict_get (thnE (ho pins s σ H _ I h) fun u s1 x H1 I1 rx qz18=>?_)
 obtain ⟨a,ex,d,q1⟩:=qz18
 subst ex
 obtain rfl:u=Value.ref a:=rx
 obtain ⟨t1,t2,_⟩:=isD_at I1 d
 refine ⟨t1,t2,?_⟩
 rw [m.trees]
 refine Calls.callWith_builtin rfl (Calls.evalArgs_plain (Calls.spliced_cons (thnE (he pins s1 σ H1 _ I1 q1) fun iv s2 y H2 I2 ry q2 =>
  Calls.spliced_cons (thn (hf pins s2 σ H2 _ I2 q2) fun fv s3 ⟨z,H3,I3,rz,ov,g,q3⟩=>Calls.spliced_nil ?_))))
 exact d_get2 hu I3 g ry rz fun w' s4 I4 rw'=>⟨_,H3,I4,rw',q3⟩
end
section
variable {X:Cx} {pins:List (Addr×Obj)} {σ:St} {H:Hp} {s:Shared} {a:Addr} {kvs:List (Key×V)} {A:Around} {E:Value→Shared→Prop}
end
section
variable {X:Cx} {pins:List (Addr×Obj)} {σ:St} {H:Hp} {s:Shared} {a:Addr} {y:V} {u:Value} {A:Around} {E:Value→Shared→Prop}
end
end L2
namespace HT
open PySem PyProof.Rows
section
open PySem.SeqAt
open PySem.AutoSeq1 (wpAny_loadPart')
open PySem.MeetsSeq PySem.MeetsSeq2 PySem.MeetsSeq3
end
section
variable {prog:Program} {w:World} {A:Around} {E:Value→Shared→Prop} {s:Shared}
noncomputable def sIx (n d:Nat):Option Int→Nat
 | none=>d
 | some v=>if v < 0 then (v + (n:Int)).toNat else min v.toNat n
end
end HT
namespace L2
open PySem PySem.Spec PyProof.Rows
noncomputable abbrev TO:=St→Hp→(Option Int→Hp→Prop)→Prop
noncomputable def PO (X:Cx) (e:Option Expr) (t:TO):Prop :=
 ∀ (pins:List (Addr×Obj)) (s:Shared) (σ:St) (H:Hp) (Q:Option Int→Hp→Prop),Inv X pins σ H s→t σ H Q →
  wpAny (model X.prog X.w) X.A (evalPart e X.env) (fun u s'=>Ex_2_3 (fun o H'=>Inv X pins σ H' s') (fun o H'=>IsPart u o) (fun o H'=>Q o H')) X.xe s
noncomputable def tNoPart:TO:=fun _ H Q=>Q none H
noncomputable def tPart (t:TE):TO:=fun σ H Q=>t σ H fun x H1=>Ex_1_2 (fun i=>x=.int i) (fun i=>Q (some i) H1)
section
variable {X:Cx} {e:Expr} {te:TE} {lo hi:Option Expr} {tl th:TO} {pos p2:Pos}
theorem po_none:PO X none tNoPart:=by
 intro pins s σ H Q I h
 rw [evalPart_none]
 exact wpAny_pure ⟨none,H,I,.none,h⟩
theorem po_some (h:PE X e te):PO X (some e) (tPart te):=by
 intro pins s σ H Q I hw
 rw [evalPart_some]
 refine thnE (h pins s σ H _ I hw) fun u s1 x H1 I1 r1 q1=>?_
 obtain ⟨i,rfl,q⟩:=q1
 obtain ⟨t,rfl⟩:=r1
 exact ⟨some i,H1,I1,.int i t,q⟩
noncomputable def SlR (X:Cx) (r:V→Option Int→Option Int→Hp→VK→Prop):Prop :=
 ∀ (pins:List (Addr×Obj)) (s:Shared) (σ:St) (H:Hp) (x:V) (v vl vu:Value) (lo hi:Option Int) (sl:Addr) (Q:VK),Inv X pins σ H s→RelV x v→s.heap.IsSliceOf sl vl vu .none→IsPart vl lo→IsPart vu hi→r x lo hi H Q →
  Ex_2_3 (fun T id=>typeLookup (.type T) "__getitem__"=pure (some (.builtin id))) (fun T id=>s.TypeIs v T) (fun T id=>wpAny (model X.prog X.w) X.A (getItem v (.ref sl)) (EP X pins σ Q) X.xe s)
noncomputable def tSl (r:V→Option Int→Option Int→Hp→VK→Prop) (te:TE) (tl th:TO):TE:=fun σ H Q=>te σ H fun x H1=>tl σ H1 fun l H2=>th σ H2 fun u H3=>r x l u H3 Q
theorem pe_slice {r:V→Option Int→Option Int→Hp→VK→Prop} (hr:SlR X r) (he:PE X e te) (hl:PO X lo tl) (hu:PO X hi th):PE X (.Subscript e (.Slice lo hi none p2) pos) (tSl r te tl th):=by
 intro pins s σ H Q I h
 refine Subscript_ (thnE (he pins s σ H _ I h) fun v s1 x H1 I1 r1 q1=>?_)
 refine wpAny_Slice (thn (hl pins s1 σ H1 _ I1 q1) fun vl s2 ⟨l,H2,I2,pl,q2⟩=>thn (hu pins s2 σ H2 _ I2 q2) fun vu s3 ⟨u,H3,I3,pu,q3⟩=>?_)
 rw [evalPart_none]
 refine wpAny_pure ?_
 have I4:Inv X pins σ H3 { s3 with heap:=s3.heap.push { cls:=.type "slice",data:=.fields #[vl,vu,.none] } }:=I3.kept (t':=s3.toks) fun b ob q=>Heap.get?_push_of_some _ q
 obtain ⟨T,id,hT,ht,hg⟩:=hr pins { s3 with heap:=s3.heap.push { cls:=.type "slice",data:=.fields #[vl,vu,.none] } } σ H3 x v vl vu l u s3.heap.objs.size Q I4 r1 (Heap.IsSliceOf.new ..) pl pu q3
 show wpAny (model X.prog X.w) X.A (subscriptTail e (.Slice lo hi none p2) v (.ref s3.heap.objs.size)) (EP X pins σ Q) X.xe { s3 with heap:=s3.heap.push { cls:=.type "slice",data:=.fields #[vl,vu,.none] } }
 exact tail_any (ops:=[.ref s3.heap.objs.size,v]) ht hT hg (by with_unfolding_all rfl)
noncomputable def cutV (xs:List V) (lo hi:Option Int):List V:=(xs.drop (HT.sIx xs.length 0 lo)).take (HT.sIx xs.length xs.length hi - HT.sIx xs.length 0 lo)
theorem cutV_length (xs:List V) (lo hi:Option Int):(cutV xs lo hi).length≤xs.length:=by
 unfold cutV
 rw [List.length_take,List.length_drop]
 lia
end
end L2
namespace L2
open PySem PySem.Spec PyProof.Rows
noncomputable def ixN (n:Nat) (i:Int):Option Nat:=if 0≤i then (if i < n then some i.toNat else none) else if -(n:Int)≤i then some (i + n).toNat else none
noncomputable def atI {α:Type} (xs:List α) (i:Int):Option α:=(ixN xs.length i).bind fun j=>xs[j]?
theorem ixN_seq {n:Nat} {i:Int} {j:Nat} (h:ixN n i=some j):seqIndex? i n=some j∧j < n∧-(n:Int)≤i∧i < n:=by
 unfold ixN at h
 by_cases h0:0≤i
 ·rw [if_pos h0] at h
  by_cases h1:i < n
  ·rw [if_pos h1] at h
   have e:i.toNat=j:=Option.some.inj h
   exact ⟨by rw [seqIndex_of h0 h1,e],by lia,by lia,h1⟩
  ·rw [if_neg h1] at h; cases h
 ·rw [if_neg h0] at h
  by_cases h1:-(n:Int)≤i
  ·rw [if_pos h1] at h
   have e:(i + n).toNat=j:=Option.some.inj h
   exact ⟨by rw [seqIndex_neg (by lia) h1,e],by lia,h1,by lia⟩
  ·rw [if_neg h1] at h; cases h
theorem atI_get {α:Type} {xs:List α} {i:Int} {v:α} (h:atI xs i=some v):∃ j,seqIndex? i xs.length=some j∧xs[j]?=some v∧j < xs.length∧-(xs.length:Int)≤i∧i < xs.length:=by
 unfold atI at h
 cases e:ixN xs.length i with
 | none=>rw [e] at h; cases h
 | some j =>
  rw [e] at h
  obtain ⟨h1,h2,h3,h4⟩:=ixN_seq e
  exact ⟨j,h1,h,h2,h3,h4⟩
theorem atI_nat {α:Type} {xs:List α} {j:Nat} {v:α} (h:xs[j]?=some v):atI xs (j:Int)=some v:=by
 have hj:j < xs.length:=(List.getElem?_eq_some_iff.mp h).1
 have e:ixN xs.length (j:Int)=some j:=by
  unfold ixN
  rw [if_pos (by lia),if_pos (by lia)]; simp
 unfold atI; rw [e]; exact h
noncomputable def PlainIx (b:Expr):Prop:=∀ o i,subscripted b false o i=operate [o,i] (getItem o i)
noncomputable def IxR (X:Cx) (r:R2):Prop :=
 ∀ (value slice:Expr) (pins:List (Addr×Obj)) (s:Shared) (σ:St) (H:Hp) (x y:V) (v u:Value) (Q:VK),Inv X pins σ H s→RelV x v→RelV y u→r x y H Q →
  subscripted slice false v u=operate [v,u] (getItem v u)→wpAny (model X.prog X.w) X.A (subscriptTail value slice v u) (EP X pins σ Q) X.xe s
noncomputable def MtR (X:Cx) (id:String) (r:V→List V→Hp→VK→Prop):Prop :=
 ∀ (pins:List (Addr×Obj)) (s:Shared) (σ:St) (H:Hp) (x:V) (xs:List V) (v:Value) (us:List Value) (Q:VK),Inv X pins σ H s→RelV x v→Vals xs us→r x xs H Q →
  wpAny (model X.prog X.w) X.A (call (.builtin id) (v :: us)) (EP X pins σ Q) X.xe s
section
variable {X:Cx} {a b:Expr} {ta tb:TE} {pos:Pos}
theorem pe_ix {r:R2} (hr:IxR X r) (ha:PE X a ta) (hb:PE X b tb) (hs:PlainIx b):PE X (.Subscript a b pos) (tOp r ta tb):=by
 intro pins s σ H Q I h
 exact Subscript_ (binT ha hb I h fun v u s2 x y H2 I2 rx ry q=>hr a b pins s2 σ H2 x y v u Q I2 rx ry q (hs _ _))
noncomputable def rIxL (K:PySem.W.Frag):R2:=fun x y H Q=>Ex_4_5 (fun p xs i v=>x=.ref p) (fun p xs i v=>y=.int i) (fun p xs i v=>SqL K H p xs) (fun p xs i v=>atI xs i=some v) (fun p xs i v=>Q v H)
noncomputable def rIxT (K:PySem.W.Frag):R2:=fun x y H Q=>Ex_4_5 (fun p xs i v=>x=.ref p) (fun p xs i v=>y=.int i) (fun p xs i v=>SqT K H p xs) (fun p xs i v=>atI xs i=some v) (fun p xs i v=>Q v H)
noncomputable def rIxS:R2:=fun x y H Q=>Ex_3_5 (fun z i c=>x=.str z) (fun z i c=>y=.int i) (fun z i c=>z.length≤sizeLine) (fun z i c=>atI z.cps.toList i=some c) (fun z i c=>Q (.str ⟨#[c]⟩) H)
theorem ix_list:IxR X (rIxL X.K):=by
 intro value slice pins s σ H x y v u Q I rx ry h hs
 obtain ⟨p,xs,i,z,rfl,rfl,hq,he,q⟩:=h
 cases rx
 obtain ⟨t,rfl⟩:=ry
 obtain ⟨its,r,pl,hz⟩:=I.list hq
 obtain ⟨j,h1,h2,h3,h4,h5⟩:=atI_get he
 obtain ⟨w,ew,rw'⟩:=r.get h2
 have hl:=r.length
 have hn:=line63
 have fin:EP X pins σ Q w s:=⟨z,H,I,rw',q⟩
 by_cases h0:0≤i
 ·have hj:i.toNat=j:=by
   rw [seqIndex_of h0 h5] at h1
   exact Option.some.inj h1
  exact item_listR pl.isList h0 (by lia) (by rw [hj]; simpa using ew) fin hs
 ·have hj:(i + (its.toArray.size:Int)).toNat=j:=by
   rw [seqIndex_neg (by lia) h4] at h1
   rw [List.size_toArray,← hl]
   exact Option.some.inj h1
  exact subscriptTail_builtinR (x:=w) pl.isList.typeIs slot_list_getitem.lookup
   (wpAny_getItem_list_neg (Q:=fun r s'=>r=w∧EP X pins σ Q r s') pl.isList (by lia) (by rw [List.size_toArray] <;> lia) (by lia) (by rw [hj]; simpa using ew) ⟨rfl,fin⟩) hs
theorem ix_tup:IxR X (rIxT X.K):=by
 intro value slice pins s σ H x y v u Q I rx ry h hs
 obtain ⟨p,xs,i,z,rfl,rfl,hq,he,q⟩:=h
 cases rx
 obtain ⟨t,rfl⟩:=ry
 obtain ⟨its,r,pl,hz⟩:=I.tuple hq
 obtain ⟨j,h1,h2,h3,h4,h5⟩:=atI_get he
 obtain ⟨w,ew,rw'⟩:=r.get h2
 have hl:=r.length
 have hn:=line63
 have fin:EP X pins σ Q w s:=⟨z,H,I,rw',q⟩
 exact subscriptTail_builtinR (x:=w) pl.typeIs slot_tuple_getitem.lookup
  (getItem_tuple (j:=j) (Q:=fun r s'=>r=w∧EP X pins σ Q r s') pl (by lia) (by lia) (by rw [List.size_toArray,← hl]; exact h1) (by simpa using ew) ⟨rfl,fin⟩) hs
theorem ix_str:IxR X rIxS:=by
 intro value slice pins s σ H x y v u Q I rx ry h hs
 obtain ⟨z,i,c,rfl,rfl,hz,he,q⟩:=h
 obtain ⟨t,rfl⟩:=rx
 obtain ⟨t',rfl⟩:=ry
 obtain ⟨j,h1,h2,h3,h4,h5⟩:=atI_get he
 have hl:z.cps.toList.length=z.length:=by simp [Str.length]
 rw [hl] at h1 h4 h5
 have hn:=line63
 exact tail_any (typeIs_str s z t) slot_str_getitem.lookup (getItem_str (c:=c) (by
  have e1:decide (i < -(2 ^ 63:Int))=false:=decide_eq_false (by lia)
  have e2:decide (i ≥ 2 ^ 63)=false:=decide_eq_false (by lia)
  rw [e1,e2,Bool.or_false]) (by rw [h1]; simpa using h2) ⟨.str ⟨#[c]⟩,H,I.tok _,⟨_,rfl⟩,q⟩) hs
theorem mapSeq_set (its:List Value) (n j:Nat) (u:Value):Obj.mapSeq (·.setIfInBounds j u) { cls:=.type "list",data:=.seq its.toArray n }={ cls:=.type "list",data:=.seq (its.set j u).toArray n }:=by
 simp [Obj.mapSeq]
theorem Inv.lst {pins:List (Addr×Obj)} {σ:St} {H:Hp} {s:Shared} {p:Addr} {xs:List V} (I:Inv X pins σ H s) (h:H p=some (.lst xs)) :
  Ex_2_3 (fun (its:List Value) (n:Nat)=>Vals xs its) (fun its n=>s.heap.get? p=some { cls:=.type "list",data:=.seq its.toArray n }) (fun its n=>xs.length≤sizeLine):=by
 obtain ⟨z,its,n,r,e⟩:=I.hok p _ h
 exact ⟨its,n,r,e,z⟩
theorem Inv.lstUpd {pins:List (Addr×Obj)} {σ:St} {H:Hp} {s:Shared} {p:Addr} {xs ys:List V} {its its':List Value} {n n':Nat} {f:Obj→Obj} (I:Inv X pins σ H s) (h:H p=some (.lst xs))
  (ho:s.heap.get? p=some { cls:=.type "list",data:=.seq its.toArray n }) (hf:f { cls:=.type "list",data:=.seq its.toArray n }={ cls:=.type "list",data:=.seq its'.toArray n' }) (r:Vals ys its') (hz:ys.length≤sizeLine) (t:Nat) :
  Inv X pins σ (upd H p (.lst ys)) { s with heap:=s.heap.update p f,toks:=t }:=by
 have e:(s.heap.update p f).get? p=some { cls:=.type "list",data:=.seq its'.toArray n' }:=by
  rw [Heap.get?_update_self f ho (by rw [hf] <;> rfl),hf]
 refine I.write (x:=p) (e:=p) (by rw [h]; trivial) (.inl rfl) (fun b u hb q=>(Heap.get?_update_other _ _ (Ne.symm hb)).trans q) ⟨_,e⟩ ?_
 exact ⟨hz,its',n',r,e⟩
noncomputable def rSetL:V→V→V→Hp→(Hp→Prop)→Prop:=fun o i v H Q=>Ex_4_5 (fun p xs k j=>o=.ref p) (fun p xs k j=>i=.int k) (fun p xs k j=>H p=some (.lst xs)) (fun p xs k j=>ixN xs.length k=some j) (fun p xs k j=>Q (upd H p (.lst (xs.set j v))))
theorem set_list:PSet X rSetL:=by
 intro pins s σ H o i v ov iv u Q I ro ri rv h
 obtain ⟨p,xs,k,j,rfl,rfl,hp,hj,q⟩:=h
 cases ro
 obtain ⟨t,rfl⟩:=ri
 obtain ⟨its,n,r,ho,hz⟩:=I.lst hp
 obtain ⟨h1,h2,h3,h4⟩:=ixN_seq hj
 have hl:=r.length
 have hn:=line63
 have I':Inv X pins σ (upd H p (.lst (xs.set j v))) { s with heap:=s.heap.update p (Obj.mapSeq (·.setIfInBounds j u)) } :=
  I.lstUpd hp ho (mapSeq_set its n j u) (r.set rv j) (by rw [List.length_set]; exact hz) s.toks
 by_cases h0:0≤k
 ·have hk:k.toNat=j:=by
   rw [seqIndex_of h0 h4] at h1
   exact Option.some.inj h1
  exact PySem.W.ki_setAt ho h0 (by lia) (by rw [List.size_toArray,← hl]; exact h4) (by rw [hk]; exact ⟨_,I',q⟩)
 ·have hk:(k + (its.toArray.size:Int)).toNat=j:=by
   rw [seqIndex_neg (by lia) h3] at h1
   rw [List.size_toArray,← hl]
   exact Option.some.inj h1
  exact PySem.W.ki_setBack ho (by lia) (by rw [List.size_toArray,← hl]; exact h3) (by lia) (by rw [hk]; exact ⟨_,I',q⟩)
theorem sIx_w (v:Int) (n:Nat):(if v < 0 then n - (-v).toNat else min v.toNat n)=(if v < 0 then (v + (n:Int)).toNat else min v.toNat n):=by
 by_cases h:v < 0
 ·rw [if_pos h,if_pos h]; lia
 ·rw [if_neg h,if_neg h]
theorem slice_bounds (lo hi:Option Int) (n:Nat):(sliceBounds lo hi none n).1=((HT.sIx n 0 lo:Nat):Int)∧(sliceBounds lo hi none n).2.1=((HT.sIx n n hi:Nat):Int)∧(sliceBounds lo hi none n).2.2=1:=by
 rw [PySem.W.kms_bounds]
 refine ⟨congrArg (fun k:Nat=>(k:Int)) ?_,congrArg (fun k:Nat=>(k:Int)) ?_,rfl⟩
 ·cases lo with
  | none=>rfl
  | some v=>exact sIx_w v n
 ·cases hi with
  | none=>rfl
  | some v=>exact sIx_w v n
theorem slicePick_cut (its:List Value) (lo hi:Option Int):slicePick its.toArray lo hi none=((its.drop (HT.sIx its.length 0 lo)).take (HT.sIx its.length its.length hi - HT.sIx its.length 0 lo)).toArray:=by
 obtain ⟨h1,h2,h3⟩:=slice_bounds lo hi its.toArray.size
 unfold slicePick
 rw [h1,h2,h3]
 simp only [sliceRange_one,pick_run,List.size_toArray] <;> rfl
noncomputable def rSlL (K:PySem.W.Frag):V→Option Int→Option Int→Hp→VK→Prop:=fun x lo hi H Q=>Ex_2_3 (fun a xs=>x=.ref a) (fun a xs=>SqL K H a xs) (fun a xs=>∀ p,H p=none→Q (.ref p) (upd H p (.lst (cutV xs lo hi))))
theorem sl_list:SlR X (rSlL X.K):=by
 intro pins s σ H x v vl vu lo hi sl Q I rx hs pl pu h
 obtain ⟨a,xs,rfl,hx,q⟩:=h
 cases rx
 obtain ⟨its,r,ht,hz⟩:=I.list hx
 have hlen:=r.length
 refine ⟨"list",_,slot_list_getitem.lookup,ht.isList.typeIs,?_⟩
 refine wpAny_getItem_list_slice ht.isList hs pl pu .none (by simp) ?_ (by rw [List.size_toArray] <;> lia)
 rw [slicePick_cut,← hlen]
 refine ⟨.ref s.heap.objs.size,_,I.laid (t':=s.toks) (o:=.lst (cutV xs lo hi)) (fun b ob q=>Heap.get?_push_of_some _ q) (Nat.le_refl _) ?_,rfl,q _ (I.hok.fresh (Nat.le_refl _))⟩
 exact ⟨Nat.le_trans (cutV_length xs lo hi) hz,_,0,(r.drop (HT.sIx xs.length 0 lo)).take (HT.sIx xs.length xs.length hi - HT.sIx xs.length 0 lo),Heap.get?_push_size _ rfl⟩
noncomputable def flatV:V→Bool
 | .non=>true
 | .bl _=>true
 | .int _=>true
 | .str _=>true
 | _=>false
noncomputable def eqV:V→V→Bool
 | .non,.non=>true
 | .bl a,.bl b=>a == b
 | .bl a,.int b=>(if a then 1 else 0) == b
 | .int a,.bl b=>a == (if b then 1 else 0)
 | .int a,.int b=>a == b
 | .str a,.str b=>a == b
 | _,_=>false
theorem eqAt_V {A:Around} {s:Shared} {y x:V} {u v:Value} (ry:RelV y u) (rx:RelV x v) (fy:flatV y=true) (fx:flatV x=true):SeqAt.EqAt A s u v (eqV y x):=by
 cases y with
 | non =>
  cases ry
  cases x with
  | non=>cases rx; exact SeqAt.EqAt.same _
  | bl b=>cases rx; exact SeqAt.EqAt.none_bool b
  | int b=>obtain ⟨t,rfl⟩:=rx; exact SeqAt.EqAt.none_int b t
  | str b=>obtain ⟨t,rfl⟩:=rx; exact SeqAt.EqAt.none_str b t
  | _=>exact absurd (show false=true from fx) Bool.false_ne_true
 | bl a =>
  cases ry
  cases x with
  | non=>cases rx; exact SeqAt.EqAt.bool_none a
  | bl b=>cases rx; exact SeqAt.EqAt.bool_bool a b
  | int b=>obtain ⟨t,rfl⟩:=rx; exact SeqAt.EqAt.bool_int a b t
  | str b=>obtain ⟨t,rfl⟩:=rx; exact SeqAt.EqAt.bool_str a b t
  | _=>exact absurd (show false=true from fx) Bool.false_ne_true
 | int a =>
  obtain ⟨t',rfl⟩:=ry
  cases x with
  | non=>cases rx; exact SeqAt.EqAt.int_none a t'
  | bl b=>cases rx; exact SeqAt.EqAt.int_bool a t' b
  | int b=>obtain ⟨t,rfl⟩:=rx; exact SeqAt.EqAt.int_int a t' b t
  | str b=>obtain ⟨t,rfl⟩:=rx; exact SeqAt.EqAt.int_str a t' b t
  | _=>exact absurd (show false=true from fx) Bool.false_ne_true
 | str a =>
  obtain ⟨t',rfl⟩:=ry
  cases x with
  | non=>cases rx; exact SeqAt.EqAt.str_none a t'
  | bl b=>cases rx; exact SeqAt.EqAt.str_bool a t' b
  | int b=>obtain ⟨t,rfl⟩:=rx; exact SeqAt.EqAt.str_int a t' b t
  | str b=>obtain ⟨t,rfl⟩:=rx; exact SeqAt.EqAt.str_str a t' b t
  | _=>exact absurd (show false=true from fx) Bool.false_ne_true
 | _=>exact absurd (show false=true from fy) Bool.false_ne_true
noncomputable def eqU (x:V) (u:Value):Bool:=match u with
 | .none=>eqV .non x
 | .bool b=>eqV (.bl b) x
 | .int i _=>eqV (.int i) x
 | .str z _=>eqV (.str z) x
 | _=>false
theorem eqU_of {x y:V} {u:Value} (r:RelV y u) (f:flatV y=true):eqU x u=eqV y x:=by
 cases y with
 | non=>cases r; rfl
 | bl b=>cases r; rfl
 | int i=>obtain ⟨t,rfl⟩:=r; rfl
 | str z=>obtain ⟨t,rfl⟩:=r; rfl
 | _=>exact absurd (show false=true from f) Bool.false_ne_true
theorem any_eqU {x:V} {xs:List V} {us:List Value} (h:Vals xs us) (f:xs.all flatV=true):us.any (eqU x)=xs.any fun y=>eqV y x:=by
 induction h with
 | nil=>rfl
 | cons r t ih =>
  rw [List.all_cons,Bool.and_eq_true] at f
  rw [List.any_cons,List.any_cons,eqU_of r f.1,ih f.2]
theorem mem_eqAt {A:Around} {s:Shared} {x:V} {v:Value} (rx:RelV x v) (fx:flatV x=true):∀ {xs:List V} {us:List Value},Vals xs us→xs.all flatV=true→∀ u∈us,SeqAt.EqAt A s u v (eqU x u)
 | _,_,.nil,_=>fun u hu=>by cases hu
 | y :: xs,u :: us,.cons r t,f=>fun u' hu=>by
  rw [List.all_cons,Bool.and_eq_true] at f
  rcases List.mem_cons.mp hu with rfl | hu
  ·rw [eqU_of r f.1]; exact eqAt_V r rx f.1 fx
  ·exact mem_eqAt rx fx t f.2 u' hu
noncomputable def inV (x:V) (xs:List V):Bool:=xs.any fun y=>eqV y x
noncomputable def rIn (K:PySem.W.Frag) (neg:Bool):R2:=fun x y H Q=>Ex_2_5 (fun p xs=>y=.ref p) (fun p xs=>(SqL K H p xs∨SqT K H p xs)) (fun p xs=>flatV x=true) (fun p xs=>xs.all flatV=true) (fun p xs=>Q (.bl (if neg then !inV x xs else inV x xs)) H)
theorem op_in_seq:OpR X (compareOp .In) (rIn X.K false):=by
 intro pins s σ H x y v u Q I rx ry h
 obtain ⟨p,xs,rfl,hq,fx,fs,q⟩:=h
 cases ry
 rcases hq with hq | hq
 ·obtain ⟨its,r,pl,hz⟩:=I.list hq
  refine SeqAt.in_listAt (eqU x) pl.isList (fun w hw=>mem_eqAt rx fx r fs w (by simpa using hw)) ⟨.bl _,H,I,rfl,?_⟩
  rw [show its.toArray.any (eqU x)=its.any (eqU x) by simp,any_eqU r fs]
  exact q
 ·obtain ⟨its,r,pl,hz⟩:=I.tuple hq
  refine SeqAt.in_tupleAt (eqU x) pl (fun w hw=>mem_eqAt rx fx r fs w (by simpa using hw)) ⟨.bl _,H,I,rfl,?_⟩
  rw [show its.toArray.any (eqU x)=its.any (eqU x) by simp,any_eqU r fs]
  exact q
theorem call_len_seq:CallR X (.builtin "len") (fun xs H Q=>Ex_2_3 (fun p ys=>xs=[.ref p]) (fun p ys=>(SqL X.K H p ys∨SqT X.K H p ys)) (fun p ys=>Q (.int ys.length) H)):=by
 intro pins s σ H xs us Q I r h
 obtain ⟨p,ys,rfl,hq,q⟩:=h
 obtain ⟨u,rfl,rx⟩:=vals1 r
 cases rx
 have hn:=line63
 rcases hq with hq | hq
 ·obtain ⟨its,r',pl,hz⟩:=I.list hq
  have hlen:=r'.length
  exact Calls.call_len_list pl.isList (by simp only [List.size_toArray] <;> lia) ⟨.int ys.length,H,I.tok _,⟨s.toks + 1,by rw [List.size_toArray,hlen]⟩,q⟩
 ·obtain ⟨its,r',pl,hz⟩:=I.tuple hq
  have hlen:=r'.length
  exact len_tuple pl (by simp only [List.size_toArray] <;> lia) ⟨.int ys.length,H,I.tok _,⟨s.toks + 1,by rw [List.size_toArray,hlen]⟩,q⟩
theorem call_list_of:CallR X (.type "list") (fun xs H Q=>Ex_2_3 (fun p ys=>xs=[.ref p]) (fun p ys=>(SqL X.K H p ys∨SqT X.K H p ys)) (fun p ys=>∀ l,H l=none→Q (.ref l) (upd H l (.lst ys)))):=by
 intro pins s σ H xs us Q I r h
 obtain ⟨p,ys,rfl,hq,q⟩:=h
 obtain ⟨u,rfl,rx⟩:=vals1 r
 cases rx
 have fin:∀ (its:List Value),Vals ys its→ys.length≤sizeLine→∀ (h':Heap) (c':Nat),(∀ b o',s.heap.get? b=some o'→h'.get? b=some o') →
   h'.get? s.heap.objs.size=some { cls:=.type "list",dict:=none,data:=.seq its.toArray c',slots:=#[] }→EP X pins σ Q (.ref s.heap.objs.size) { s with heap:=h' }:=fun its r' hz h' c' kp e =>
  ⟨.ref s.heap.objs.size,_,I.laid (t':=s.toks) kp (Nat.le_refl _) (show ObjOk X.prog X.w _ h' _ (.lst ys) from ⟨hz,its,c',r',e⟩),rfl,q _ (I.hok.fresh (Nat.le_refl _))⟩
 rcases hq with hq | hq
 ·obtain ⟨its,r',pl,hz⟩:=I.list hq
  have hlen:=r'.length
  obtain ⟨o,ho,hc,n,hd⟩:=pl.isList
  exact call_list_seq p (.inl rfl) ho hc hd (fun h' c' kp e=>fin its r' hz h' c' kp e) (by simp only [List.size_toArray] <;> lia)
 ·obtain ⟨its,r',pl,hz⟩:=I.tuple hq
  have hlen:=r'.length
  obtain ⟨o,ho,hc,n,hd⟩:=pl
  exact call_list_seq p (.inr rfl) ho hc hd (fun h' c' kp e=>fin its r' hz h' c' kp e) (by simp only [List.size_toArray] <;> lia)
theorem call_tuple_of:CallR X (.type "tuple") (fun xs H Q=>Ex_2_2 (fun p ys=>xs=[.ref p]) (fun p ys=>((SqL X.K H p ys∧∀ l,H l=none→Q (.ref l) (upd H l (.tup ys)))∨(SqT X.K H p ys∧Q (.ref p) H)))):=by
 intro pins s σ H xs us Q I r h
 obtain ⟨p,ys,rfl,h⟩:=h
 obtain ⟨u,rfl,rx⟩:=vals1 r
 cases rx
 rcases h with ⟨hq,q⟩ | ⟨hq,q⟩
 ·obtain ⟨its,r',pl,hz⟩:=I.list hq
  have hlen:=r'.length
  refine call_tuple_list pl.isList (fun h' kp=>?_) (by simp only [List.size_toArray] <;> lia)
  have I1:Inv X pins σ H { s with heap:=h' }:=I.kept (t':=s.toks) kp
  have I2:Inv X pins σ (upd H h'.objs.size (.tup ys)) { s with heap:=h'.push { cls:=.type "tuple",data:=.seq its.toArray } } :=
   I1.laid (t':=s.toks) (fun b o e=>Heap.get?_push_of_some _ e) (Nat.le_refl _) (show ObjOk X.prog X.w _ _ _ (.tup ys) from ⟨hz,its,r',IsTup.new _ _⟩)
  exact ⟨.ref h'.objs.size,_,I2,rfl,q _ (I1.hok.fresh (Nat.le_refl _))⟩
 ·obtain ⟨its,r',pl,hz⟩:=I.tuple hq
  exact call_tuple_same pl ⟨.ref p,H,I,rfl,q⟩
noncomputable def tyV (K:PySem.W.Frag) (T:String) (x:V) (H:Hp):Prop:=match x with
 | .str _=>T="str"
 | .int _=>T="int"
 | .ref p=>(T="list"∧∃ xs,SqL K H p xs)∨(T="tuple"∧∃ o,K.lookup p=some o∧o.cls=.type "tuple"∧o.dict=none) ∨
   (T="dict"∧((∃ kvs,H p=some (.dK kvs))∨∃ kvs,H p=some (.dT kvs)))∨(T="set"∧Ex_2_1 (fun S n=>H p=some (.set S n)))
 | _=>False
theorem tyV_is {pins:List (Addr×Obj)} {σ:St} {H:Hp} {s:Shared} {T:String} {x:V} {v:Value} (I:Inv X pins σ H s) (r:RelV x v) (ty:tyV X.K T x H) :
  s.TypeIs v T∧∀ a,v=.ref a→∃ ob,s.heap.get? a=some ob∧ob.dict=none:=by
 cases x with
 | str z =>
  obtain ⟨t,rfl⟩:=r
  cases (show T="str" from ty)
  exact ⟨typeIs_str s z t,fun _ e=>nomatch e⟩
 | int i =>
  obtain ⟨t,rfl⟩:=r
  cases (show T="int" from ty)
  exact ⟨typeIs_int s i t,fun _ e=>nomatch e⟩
 | ref p =>
  cases r
  rcases ty with ⟨rfl,xs,hq⟩ | ⟨rfl,o,hk,hc,hd⟩ | ⟨rfl,hk⟩ | ⟨rfl,S,n,hk⟩
  ·obtain ⟨its,_,pl,_⟩:=I.list hq
   refine ⟨pl.isList.typeIs,fun a e=>?_⟩
   cases e
   obtain ⟨o,n,e,c,hd,_⟩:=pl
   exact ⟨o,e,hd⟩
  ·refine ⟨⟨o,I.kIn p o hk,hc⟩,fun a e=>?_⟩
   cases e
   exact ⟨o,I.kIn _ o hk,hd⟩
  ·have z:∃ o,s.heap.get? p=some o∧o.ExactDict:=by
    rcases hk with ⟨kvs,hk⟩ | ⟨kvs,hk⟩
    ·obtain ⟨_,_,_,_,o,_,_,e,ex,_⟩:=I.hok p _ hk
     exact ⟨o,e,ex⟩
    ·obtain ⟨_,_,_,_,o,_,_,e,ex,_⟩:=I.hok p _ hk
     exact ⟨o,e,ex⟩
   obtain ⟨o,e,ex⟩:=z
   refine ⟨⟨o,e,ex.1⟩,fun a e2=>?_⟩
   cases e2
   exact ⟨o,e,ex.2.1⟩
  ·obtain ⟨o,_,_,_,e,ex,_⟩:=I.hok p _ hk
   refine ⟨⟨o,e,ex.1⟩,fun a e2=>?_⟩
   cases e2
   exact ⟨o,e,ex.2.1⟩
 | _=>exact False.elim ty
noncomputable def tBM (K:PySem.W.Frag) (T:String) (r:V→List V→Hp→VK→Prop) (to:TE) (t:TA):TE:=fun σ H Q=>to σ H fun x H1=>tyV K T x H1∧t σ H1 fun xs H2=>r x xs H2 Q
variable {o e:Expr} {es:List Expr} {to:TE} {t:TA} {name:Str} {apos cpos:Pos} {T id:String} {r:V→List V→Hp→VK→Prop}
theorem pe_bm (pa:PlainAttrs T) (slot:Slot T name id) (hty:typeOf (.builtin id)=pure (.type "method_descriptor")) (hm:MtR X id r) (ho:PE X o to) (ha:PA X (e :: es) t)
  (hbase:attributeBase o name X.env (eval o X.env)=eval o X.env:=by rfl)
  (hfew:((backTo cpos (starEach (e :: es) X.env)).all (fun x=>!x.1) && (backToKw cpos (keywordEach [] X.env)).all (fun x=>x.1.isSome)
   && decide ((e :: es).length + ([]:List Keyword).length + (if ([]:List Keyword).isEmpty then 0 else 1) < 30))=true:=by rfl)
  (hline:(apos.endLine == cpos.line)=true:=by rfl) (hs:starEach (e :: es) X.env=(false,eval e X.env) :: starEach es X.env:=by rfl) (hplain:(backTo cpos (starEach es X.env)).any (·.1)=false:=by rfl) :
  PE X (.Call (.Attribute o name apos) (e :: es) [] cpos) (tBM X.K T r to t):=by
 intro pins s σ H Q I h
 refine wpAny_Call_method_late hbase hfew hline rfl (thnE (ho pins s σ H _ I h) fun v s1 x H1 I1 r1 qz22=>?_)
 obtain ⟨ty,q1⟩:=qz22
 obtain ⟨h1,h2⟩:=tyV_is I1 r1 ty
 refine ⟨T,id,pa,slot,hty,h1,h2,?_⟩
 have hA:=ha cpos pins s1 σ H1 _ I1 q1
 rw [hs] at hA ⊢
 refine Calls.callWith_builtin (by show (false || (backTo cpos (starEach es X.env)).any (·.1))=false; rw [hplain] <;> rfl) (Calls.evalArgs_plain ?_)
 exact thn hA fun us s2 ⟨vs,H2,I2,r2,q2⟩=>hm pins s2 σ H2 x vs v us Q I2 r1 r2 q2
end
end L2
namespace L2
open PySem PySem.Spec PyProof.Rows
noncomputable def MtM (X:Cx) (id:String) (r:V→List V→Hp→VK→Prop):Prop :=
 ∀ (pins:List (Addr×Obj)) (s:Shared) (σ:St) (H:Hp) (x:V) (xs:List V) (v:Value) (us:List Value) (Q:VK),Inv X pins σ H s→RelV x v→Vals xs us→r x xs H Q →
  wpAny (model X.prog X.w) X.A (call (.builtin id) (v :: us)) (EP X pins σ Q) X.xe s
theorem Vals.one {x:V} {us:List Value} (h:Vals [x] us):∃ u,us=[u]∧RelV x u:=by
 cases h with
 | cons r t=>cases t with
  | nil=>exact ⟨_,rfl,r⟩
theorem Vals.two {x y:V} {us:List Value} (h:Vals [x,y] us):Ex_2_3 (fun u v=>us=[u,v]) (fun u v=>RelV x u) (fun u v=>RelV y v):=by
 cases h with
 | cons r t=>cases t with
  | cons q t=>cases t with
   | nil=>exact ⟨_,_,rfl,r,q⟩
section
variable {X:Cx} {pins:List (Addr×Obj)} {σ:St} {H:Hp} {s:Shared} {l b:Addr} {xs ys zs:List V}
theorem Inv.lset {its its':List Value} {n:Nat} {f:Array Value→Array Value} {t':Nat} (I:Inv X pins σ H s) (hH:H l=some (.lst xs))
  (e:s.heap.get? l=some { cls:=.type "list",data:=.seq its.toArray n }) (hf:f its.toArray=its'.toArray) (hv:Vals ys its') (hz:ys.length≤sizeLine) :
  Inv X pins σ (upd H l (.lst ys)) { s with heap:=s.heap.update l (Obj.mapSeq f),toks:=t' }:=by
 have q:=PySem.IsL.update e f
 rw [hf] at q
 refine I.write (x:=l) (e:=l) (by rw [hH]; exact trivial) (.inl rfl) (fun b' u hb hu=>(Heap.get?_update_other s.heap (Obj.mapSeq f) (Ne.symm hb)).trans hu) ⟨_,q⟩ ?_
 exact ⟨hz,its',_,hv,q⟩
theorem Inv.lnew {its:List Value} {t':Nat} (I:Inv X pins σ H s) (hv:Vals ys its) (hz:ys.length≤sizeLine) :
  Inv X pins σ (upd H s.heap.objs.size (.lst ys)) { s with heap:=s.heap.push { cls:=.type "list",data:=.seq its.toArray },toks:=t' } :=
 I.laid (fun _ _ q=>Heap.get?_push_of_some _ q) (Nat.le_refl _) ⟨hz,its,0,hv,Heap.get?_push_size _ rfl⟩
theorem Inv.fresh (I:Inv X pins σ H s):H s.heap.objs.size=none:=I.hok.fresh (Nat.le_refl _)
theorem Inv.lstM (I:Inv X pins σ H s) (hH:H l=some (.lst xs)):xs.length≤sizeLine∧Ex_2_3 (fun (its:List Value) (n:Nat)=>Vals xs its) (fun its n=>xs.length=its.length) (fun its n=>s.heap.get? l=some { cls:=.type "list",data:=.seq its.toArray n }):=by
 obtain ⟨z,its,n,r,e⟩:=I.hok l _ hH
 exact ⟨z,its,n,r,r.length,e⟩
theorem notLongL {n:Nat} (h:n≤sizeLine):Builtin.List.listTooLong n=false:=by
 unfold Builtin.List.listTooLong
 exact decide_eq_false (by lia)
end
section
variable {X:Cx}
noncomputable def rAppend:V→List V→Hp→VK→Prop:=fun x vs H Q=>Ex_3_5 (fun l xs y=>x=.ref l) (fun l xs y=>vs=[y]) (fun l xs y=>H l=some (.lst xs)) (fun l xs y=>xs.length < sizeLine) (fun l xs y=>Q .non (upd H l (.lst (xs ++ [y]))))
theorem mt_append:MtM X "list.append" rAppend:=by
 intro pins s σ H x vs v us Q I rx rv h
 obtain ⟨l,xs,y,rfl,rfl,hH,hz,q⟩:=h
 cases rx
 obtain ⟨u,rfl,ru⟩:=rv.one
 obtain ⟨z,its,n,r,hl,e⟩:=I.lstM hH
 refine call_meets F.slot_list_append ⟨_,e,rfl⟩ F.entry_list_append (F.args_list_append_2 _ _) (PySem.list_append l its.toArray n u (by rw [List.size_toArray]; lia)) ⟨e,?_⟩
 refine ⟨.non,_,I.lset (its':=its ++ [u]) hH e (by simp) (r.append (.cons ru .nil)) ?_,rfl,q⟩
 rw [List.length_append,List.length_singleton]
 lia
noncomputable def rExtend:V→List V→Hp→VK→Prop:=fun x vs H Q=>Ex_4_6 (fun l b xs zs=>x=.ref l) (fun l b xs zs=>vs=[.ref b]) (fun l b xs zs=>H l=some (.lst xs)) (fun l b xs zs=>H b=some (.lst zs)) (fun l b xs zs=>xs.length + zs.length≤sizeLine) (fun l b xs zs=>Q .non (upd H l (.lst (xs ++ zs))))
theorem mt_extend:MtM X "list.extend" rExtend:=by
 intro pins s σ H x vs v us Q I rx rv h
 obtain ⟨l,b,xs,zs,rfl,rfl,hH,hB,hz,q⟩:=h
 cases rx
 obtain ⟨u,rfl,ru⟩:=rv.one
 cases ru
 obtain ⟨z,its,n,r,hl,e⟩:=I.lstM hH
 obtain ⟨z2,its2,n2,r2,hl2,e2⟩:=I.lstM hB
 have hsz:its.toArray.size + its2.toArray.size≤sizeLine:=by rw [List.size_toArray,List.size_toArray]; lia
 have hlong:¬ (!its.toArray.isEmpty && Builtin.List.listTooLong (its.toArray.size + its2.toArray.size))=true:=by
  rw [notLongL hsz,Bool.and_false]
  exact Bool.false_ne_true
 refine call_meets F.slot_list_extend ⟨_,e,rfl⟩ F.entry_list_extend (F.args_list_extend_2 _ _)
  (AutoSeq1.list_extend_list_list_0 l its.toArray n b its2.toArray n2 hlong (by rw [List.size_toArray]; lia) (by lia)) ⟨e,e2,?_⟩
 refine ⟨.non,_,I.lset (its':=its ++ its2) hH e (by simp) (r.append r2) ?_,rfl,q⟩
 rw [List.length_append]
 lia
noncomputable def rCat:R2:=fun x y H Q=>Ex_4_6 (fun l b xs zs=>x=.ref l) (fun l b xs zs=>y=.ref b) (fun l b xs zs=>H l=some (.lst xs)) (fun l b xs zs=>H b=some (.lst zs)) (fun l b xs zs=>xs.length + zs.length≤sizeLine) (fun l b xs zs=>∀ p,H p=none→Q (.ref p) (upd H p (.lst (xs ++ zs))))
theorem op_cat:OpR X (binaryOp .Add) rCat:=by
 intro pins s σ H x y v u Q I rx ry h
 obtain ⟨l,b,xs,zs,rfl,rfl,hH,hB,hz,q⟩:=h
 cases rx
 cases ry
 obtain ⟨z,its,n,r,hl,e⟩:=I.lstM hH
 obtain ⟨z2,its2,n2,r2,hl2,e2⟩:=I.lstM hB
 refine PySem.P.add_list e e2 ?_ (by rw [List.size_toArray,List.size_toArray]; lia)
 have ea:its.toArray ++ its2.toArray=(its ++ its2).toArray:=by simp
 rw [ea]
 exact ⟨.ref _,_,I.lnew (t':=s.toks) (r.append r2) (by rw [List.length_append]; lia),rfl,q _ I.fresh⟩
end
section
variable {prog:Program} {w:World} {A:Around} {E:Value→Shared→Prop} {s:Shared}
set_option maxRecDepth 100000 in
end
section
variable {X:Cx}
end
end L2
namespace Att
open PySem PySem.W PySem.Calls PyProof.Rows
theorem ints_of_wellAll {P:Params} {h:Heap}:∀ (ns:List Int) (vs:List Value),WellAll P h vs (ns.map WData.int)→IntsAre vs ns:=by
 intro ns
 induction ns with
 | nil =>
  intro vs w
  rw [List.map_nil] at w
  cases w
  exact .nil
 | cons n ns ih =>
  intro vs w
  rw [List.map_cons] at w
  cases w with
  | cons a b =>
   cases a
   exact .cons _ _ (ih _ b)
theorem script_of {l:OpenLaw} {n:Nat} (hn:l.most=some n) {P:Params} {h:Heap} {args:List WData} {vals:List Value}
  (hpre:l.row.toRowW.claim.pre args=true) (hwl:WellAll P h vals args) :
  Ex_3_5 (fun a vs ns=>vals=[Value.ref a]) (fun a vs ns=>args=[WData.list (ns.map WData.int)]) (fun a vs ns=>h.get? a=some { cls:=.type "list",data:=.seq vs.toArray }) (fun a vs ns=>IntsAre vs ns) (fun a vs ns=>ns.length≤n):=by
 have hsh:WShape.hasAll [] args [.list .int]=true:=(pre_splitW hpre).1
 have hc:l.pre.holds [] { args:=args }=true:=(pre_splitW hpre).2
 obtain ⟨d,r,rfl,h1,h2⟩:=hasAllW_cons hsh
 obtain rfl:=hasAllW_nil h2
 obtain ⟨xs,rfl,h3⟩:=hasW_list h1
 obtain ⟨ns,rfl⟩:=items_int h3
 have hlen:ns.length≤n:=by
  unfold OpenLaw.pre at hc
  have h4:(WTm.not (.lt (.lit (.int (n:Int))) (.len (.arg 0)))).holds [] { args:=[.list (ns.map .int)] }=true:=by
   have h4:=(holds_andW hc).1
   rw [hn] at h4
   exact h4
  have h5:=condW_of h4 (w_not (w_lt w_lit (w_len_list (w_arg rfl))))
  rw [List.length_map] at h5
  refine Nat.le_of_not_lt fun q=>?_
  have q':(n:Int) < ((ns.length:Nat):Int):=by lia
  first
   | (rw [decide_eq_true q'] at h5; exact absurd h5 (by decide))
   | (simp at h5; lia)
 cases hwl with
 | cons w1 w2 =>
  cases w2
  cases w1 with
  | list ho hall=>exact ⟨_,_,ns,rfl,rfl,ho,ints_of_wellAll ns _ hall,hlen⟩
theorem post_true (l:OpenLaw) (args:List WData):l.row.toRowW.claim.post args (.bool true) args=true :=
 postW_of (r:=l.row.toRowW) (X:=(true == true))
  (show WShape.has [] (.bool true) .bool=true by first | rfl | decide | simp [WShape.has,WShape.arms,WShape.armsAll])
  (show (WTm.eq .res (.lit (.bool true))).value [] { args:=args,res:=some (.bool true),after:=args }=some (.bool (true == true)) from w_eq_bool (w_res rfl) w_lit) rfl
section
variable {prog:Program} {w:World} {A:Around} {E:Value→Shared→Prop} {s:Shared} {K:Frag}
end
end Att
namespace L2
open PySem PySem.Spec PyProof.Rows
theorem vals_ints {vs:List Value} {ns:List Int} (h:IntsAre vs ns):Vals (ns.map V.int) vs:=by
 induction h with
 | nil=>exact .nil
 | cons n t h ih=>exact .cons ⟨t,rfl⟩ ih
noncomputable def Only (H:Hp):Prop:=∀ b,H b=none∨Ex_2_1 (fun o xs=>H b=some (.frz o (.lst xs)))
theorem law_call {P:Program} {w:World} {K:PySem.W.Frag} {mg mb:Str→Option Value} {CX:CXT} {k:Nat} {fa a:Addr} {fd:FuncData} {x:Str} {sp:Sp} {s₁:Shared} {vs:List Value} {ns:List Int}
  (KX:K.In s₁.heap) (hns:s₁.heap.Ns mainGlobals mg) (hb:s₁.heap.Ns builtinsNs mb) (hbb:∀ x:Str,x≠"__name__"→mb x=bootBuiltins x) (hlim:s₁.heap.NoLimit) (hg:s₁.gens=#[])
  (ha:s₁.heap.get? a=some { cls:=.type "list",data:=.seq vs.toArray }) (hi:IntsAre vs ns) (hl:ns.length≤sizeLine) (hr:Room k callerA)
  (F:∀ base:Heap,K.In base→base.Ns mainGlobals mg→FnOk P w K mg base CX k fa fd [x] sp) (hbind:∀ (s:Shared) (u:Value),BindsTo s fd ⟨[u],[]⟩ [(x,u)])
  (hsp:∀ H:Hp,Only H→SqL K H a (ns.map V.int)→sp [.ref a] H (fun v _=>v=.bl true) fun _ _ _=>False)
  (hCX:∀ H e s',CX [] H s₁ (fun _ _ _=>False) e s'→False) :
  codeAny (model P w) callerA (.call (.ref fa) ⟨[.ref a],[]⟩) (fun r s'=>r=.ok (.ret (.bool true))∧OldK s₁.heap s'.heap∧s'.os=s₁.os∧AllBare s'.gens) s₁:=by
 have rv:=vals_ints hi
 have lenV:=hi.length
 have core:∀ H:Hp,Only H→SqL K H a (ns.map V.int)→HOk P w H s₁.heap→(∀ b,H b≠none→b=a)→(H a≠none→K.lookup a=none) →
   codeAny (model P w) callerA (.call (.ref fa) ⟨[.ref a],[]⟩) (fun r s'=>r=.ok (.ret (.bool true))∧OldK s₁.heap s'.heap∧s'.os=s₁.os∧AllBare s'.gens) s₁:=by
  intro H hO hS hok hA hK
  have base_of:∀ {b:Addr} {o:Obj},s₁.heap.get? b=some o→H b=none→(hidT s₁.heap H).get? b=some o:=fun e n=>hidT_get e n
  have noA:∀ {b:Addr} {o:Obj} {es:Array DictEntry} {ep:Nat},s₁.heap.get? b=some o→o.data=.dict es ep→H b=none:=fun {b o es ep} e d=>by
   cases q:H b with
   | none=>rfl
   | some u =>
    have e':b=a:=hA b (by rw [q]; simp)
    subst e'
    rw [ha] at e; cases e
    have d':Data.seq vs.toArray _=Data.dict es ep:=d
    cases d'
  have nsK:∀ {b:Addr} {m:Str→Option Value},s₁.heap.Ns b m→(hidT s₁.heap H).Ns b m:=fun {b m} ⟨o,es,ep,e,d,r⟩=>⟨o,es,ep,base_of e (noA e d),d,r⟩
  have hKb:K.In (hidT s₁.heap H):=fun b o e=>base_of (KX b o e) (by
   cases q:H b with
   | none=>rfl
   | some u =>
    have e':b=a:=hA b (by rw [q]; simp)
    subst e'
    rw [hK (by rw [q]; simp)] at e; cases e)
  have hM:Mod K mg (hidT s₁.heap H):=⟨hKb,nsK hns,⟨mb,nsK hb,hbb⟩,let ⟨mc,h1,h2⟩:=hlim; ⟨mc,nsK h1,h2⟩⟩
  have e0:Env0 P w K mg (hidT s₁.heap H) callerA [] s₁ H:=⟨rfl,hM,fun b o e=>of_hidT e,Nat.le_of_eq (hidT_size _ _),trivial,fun b hb=>absurd (show b∈([]:List Addr) from hb) (by simp),hok,.of_eq hg⟩
  refine codeAny_mono ((F _ hKb (nsK hns)).run callerA [] s₁ H ⟨[.ref a],[]⟩ [.ref a] [.ref a] _ _ hr e0 (hbind s₁ (.ref a)) (.cons rfl .nil) (hsp H hO hS)) fun r s' h=>?_
  cases r with
  | error e=>exact (hCX H e s' h).elim
  | ok fl =>
   cases fl with
   | next=>exact False.elim h
   | brk=>exact False.elim h
   | cont=>exact False.elim h
   | ret u =>
    obtain ⟨v,H',os,bare,un,hok',r',q⟩:=h
    have q':v=.bl true:=q
    subst q'
    obtain rfl:u=Value.bool true:=r'
    refine ⟨rfl,OldK.of_keep fun b o e=>?_,os,bare⟩
    cases q:H b with
    | none=>exact un.keep b o e q (by intro z; exact absurd (show b∈([]:List Addr) from z) (by simp)) (by simp)
    | some u =>
     rcases hO b with z | ⟨ob,xs,z⟩
     ·rw [q] at z; cases z
     ·have z2:=un.frzs b ob _ z
      obtain ⟨e1,_⟩:=hok b _ z
      obtain ⟨e2,_⟩:=hok' b _ z2
      rw [e] at e1; cases e1
      exact e2
 cases hk:K.lookup a with
 | some o =>
  have e:=KX a o hk
  rw [ha] at e
  cases e
  refine core (fun _=>none) (fun _=>.inl rfl) (.inr ⟨_,vs.toArray,_,hk,rfl,rfl,rfl,by rw [List.size_toArray,lenV]; exact hl,by simpa using rv⟩) (fun b u z=>by have z':(none:Option HO)=some u:=z; cases z') (fun b z=>absurd rfl z) fun z=>absurd rfl z
 | none =>
  refine core (fun b=>if b=a then some (.frz { cls:=.type "list",data:=.seq vs.toArray } (.lst (ns.map V.int))) else none) (fun b=>?_) (.inl (.inr ⟨{ cls:=.type "list",data:=.seq vs.toArray },if_pos rfl⟩)) (fun b u z=>?_) (fun b z=>?_) fun _=>hk
  ·by_cases hb:b=a
   ·exact .inr ⟨_,_,if_pos hb⟩
   ·exact .inl (if_neg hb)
  ·by_cases hb:b=a
   ·have z':=(if_pos hb).symm.trans z
    cases z'
    subst hb
    exact ⟨ha,by rw [List.length_map]; exact hl,vs,_,rv,ha⟩
   ·have z':=(if_neg hb).symm.trans z
    cases z'
  ·by_cases hb:b=a
   ·exact hb
   ·exact absurd (if_neg hb) z
end L2
namespace L2
open PySem PySem.Spec PyProof.Rows
end L2
namespace L2
open PySem PySem.Spec PyProof.Rows
noncomputable def inClass (s:Stmt) (j:Nat):Stmt:=match s with
 | .ClassDef _ _ _ body _ _ _ _ _ _ _=>body.getD j (.Pass ⟨0,0,0,0⟩)
 | _=>.Pass ⟨0,0,0,0⟩
noncomputable def defArgs (s:Stmt):Arguments:=match s with
 | .FunctionDef _ a _ _ _ _ _ _ _ _=>a
 | _=>{ posonlyargs:=[],args:=[],vararg:=none,kwonlyargs:=[],kw_defaults:=[],kwarg:=none,defaults:=[] }
noncomputable def defBody (s:Stmt):List Stmt:=match s with
 | .FunctionDef _ _ b _ _ _ _ _ _ _=>b
 | _=>[]
noncomputable def defScope (s:Stmt):Scope:=match s with
 | .FunctionDef _ _ _ _ _ _ sc _ _ _=>sc
 | _=>{ kind:=.function,names:=[],isGenerator:=false,isCoroutine:=false }
noncomputable abbrev CX0:CXT:=fun _ _ _ _ _ _=>False
noncomputable abbrev E0:XK:=fun _ _ _=>False
theorem pass0 {X:Cx}:Passes CX0 X E0:=fun _ _ _ _ _ _ _ h=>h.elim
structure Fun (K:PySem.W.Frag) (x qual:Str) (st:Stmt) (f:Addr) (fd:FuncData):Prop where
 ex:∃ (oc:Value) (od:Option Addr) (kV doc pm:Value) (an:Option Addr) (cdv ct:Value) (osl:Array (Option Value)),
  fd=PySem.W.fnOf x qual (defArgs st) (defBody st) (defScope st) .none kV doc pm an cdv ct∧K.lookup f=some ⟨oc,od,.func fd,osl⟩∧PySem.W.codeIn K cdv qual=true
 kp:PySem.W.keepIn K (.ref f)=true
section
variable {P:Program} {w:World} {K:PySem.W.Frag} {mg:Str→Option Value} {base:Heap}
theorem Fun.ok {x qual:Str} {st:Stmt} {f:Addr} {fd:FuncData} {N ps:List Str} {k:Nat} {sp:Sp} (F:Fun K x qual st f fd) (S:FnScope N ps (defScope st)) (len:∀ vs H Q E,sp vs H Q E→vs.length=ps.length)
  (hbody:∀ (cdv:Value) (A:Around) (outer:List Env) (s:Shared) (H:Hp) (vs:List V) (Q:VK) (E:XK),Room k (A.deeper (envOfC qual (defScope st) s.heap.objs.size f cdv))→sp vs H Q E →
   ∃ t,PSs (cxOf CX0 P w K mg base N qual (defScope st) f cdv A outer s H E).nox (defBody st) t∧t { nx:=fun _ H'=>Q .non H',rt:=Q } (start N vs) H):FnOk P w K mg base CX0 (k + 1) f fd ps sp:=by
 obtain ⟨oc,od,kV,doc,pm,an,cdv,ct,osl,rfl,lk,hcd⟩:=F.ex
 refine fn_of lk hcd S len fun A outer s H vs Q E hr hsp=>?_
 obtain ⟨t,h,q⟩:=hbody cdv A outer s H vs Q E hr hsp
 exact ⟨t,h.nox,q⟩
theorem Fun.binds {x qual:Str} {st:Stmt} {f:Addr} {fd:FuncData} {ps:List Str} (F:Fun K x qual st f fd)
  (h:∀ (kV doc pm:Value) (an:Option Addr) (cdv ct:Value) (us:List Value),us.length=ps.length→bindArgs (PySem.W.fnOf x qual (defArgs st) (defBody st) (defScope st) .none kV doc pm an cdv ct) ⟨us,[]⟩=pure (ps.zip us)):Binds K fd ps []:=by
 obtain ⟨oc,od,kV,doc,pm,an,cdv,ct,osl,rfl,lk,hcd⟩:=F.ex
 exact .all (h kV doc pm an cdv ct)
theorem fun_mk {x qual:Str} {st:Stmt} {f:Addr} {oc:Value} {od an:Option Addr} {osl:Array (Option Value)} {kV doc pm cdv ct:Value} (l:K.lookup f=some ⟨oc,od,.func (PySem.W.fnOf x qual (defArgs st) (defBody st) (defScope st) .none kV doc pm an cdv ct),osl⟩)
  (c:PySem.W.codeIn K cdv qual=true) (k:PySem.W.keepIn K (.ref f)=true):Fun K x qual st f (PySem.W.fnOf x qual (defArgs st) (defBody st) (defScope st) .none kV doc pm an cdv ct):=⟨⟨oc,od,kV,doc,pm,an,cdv,ct,osl,rfl,l,c⟩,k⟩
end
theorem hu_of {A:Around} {k:Nat} (hr:Room k A):A.units + 1 < cLine:=Nat.lt_of_le_of_lt (Nat.add_le_add_left (by decide:1≤64) _) hr.units
theorem small1000 {n:Nat} (h:n≤1000):n < sizeLine:=Nat.lt_of_le_of_lt h (by decide)
section
variable {X:Cx}
theorem pv (i:Nat) {x:Str} {pos:Pos} (hN:X.N[i]?=some x:=by rfl) (hv:Vis X.env.scope x:=by first | exact Or.inl rfl | exact Or.inr (Or.inl rfl) | exact Or.inr (Or.inr rfl)) (hd:(x == ("__debug__":Str))=false:=by decide)
  (hcd:(x == ("__classdict__":Str))=false:=by decide):PE X (.Name x pos) (tVar i):=pe_var hN hv hd hcd
end
theorem iteF {A B:Prop} (h:B):if false=true then A else B:=by
 rw [if_neg Bool.false_ne_true]
 exact h
theorem iteT {A B:Prop} (h:A):if true=true then A else B:=by
 rw [if_pos rfl]
 exact h
theorem ite2 {c A B:Prop} [Decidable c] (h1:c→A) (h2:¬ c→B):if c then A else B:=by
 by_cases h:c
 ·rw [if_pos h]
  exact h1 h
 ·rw [if_neg h]
  exact h2 h
noncomputable def Same (H H':Hp):Prop:=∀ b o,H b=some o→H' b=some o
theorem Same.refl (H:Hp):Same H H:=fun _ _ h=>h
theorem Same.trans {H H1 H2:Hp} (a:Same H H1) (b:Same H1 H2):Same H H2:=fun c o h=>b c o (a c o h)
theorem Same.free {H H':Hp} (e:Same H H') {l:Addr} (h:H' l=Option.none):H l=Option.none:=by
 cases q:H l with
 | none=>rfl
 | some o =>
  rw [e l o q] at h
  cases h
theorem Same.seq {K:PySem.W.Frag} {H H':Hp} {a:Addr} {xs:List V} (e:Same H H') (h:SqL K H a xs):SqL K H' a xs:=by
 rcases h with (h | ⟨o,h⟩) | h
 ·exact .inl (.inl (e _ _ h))
 ·exact .inl (.inr ⟨o,e _ _ h⟩)
 ·exact .inr h
section
variable {κ:Type} [DecidableEq κ]
theorem valV_not {kvs:List (κ×V)} {k:κ} (h:valV kvs k=none):¬ k∈kvs.map (·.1):=by
 intro m
 obtain ⟨p,hp,e⟩:=List.mem_map.mp m
 have q:(kvs.any fun kv=>decide (kv.1=k))=true:=List.any_eq_true.mpr ⟨p,hp,decide_eq_true e⟩
 rw [valV_any,h] at q
 exact absurd q (by simp)
theorem nd_snoc:∀ {l:List κ} {k:κ},l.Nodup→¬ k∈l→(l ++ [k]).Nodup
 | [],k,_,_=>by simp
 | a :: r,k,h,hk=>by
  obtain ⟨h1,h2⟩:=List.nodup_cons.mp h
  show (a :: (r ++ [k])).Nodup
  refine List.nodup_cons.mpr ⟨fun m=>?_,nd_snoc h2 fun m=>hk (List.mem_cons.mpr (Or.inr m))⟩
  rcases List.mem_append.mp m with q | q
  ·exact h1 q
  ·exact hk (List.mem_cons.mpr (Or.inl (List.mem_singleton.mp q).symm))
end
end L2
set_option Elab.async false
set_option linter.all false
set_option maxRecDepth 100000
set_option maxHeartbeats 4100000
namespace L2
open PySem PySem.Spec PyProof.Rows
noncomputable def Has (P:Program) (w:World) (K:PySem.W.Frag) (mg:Str→Option Value) (base:Heap) (k:Nat) (x:Str) (ps:List Str) (sp:Sp):Prop :=
 ∃ (f:Addr) (fd:FuncData),FnOk P w K mg base CX0 k f fd ps sp∧mg x=some (.ref f)∧PySem.W.keepIn K (.ref f)=true∧Binds K fd ps []
section
variable {X:Cx} {k:Nat} {x:Str} {ps:List Str} {sp:Sp} {p pos:Pos} {e:Expr} {es:List Expr} {t:TA}
theorem pe_fn (h:Has X.prog X.w X.K X.mg X.base k x ps sp) (hr:Room k X.A) (ha:PA X (e :: es) t) (hg:Gl X x:=by rfl) (hdb:(x == ("__debug__":Str))=false:=by decide)
  (he:starEach (e :: es) X.env=(false,eval e X.env) :: starEach es X.env:=by rfl) (hpl:(backTo pos (starEach es X.env)).any (·.1)=false:=by rfl) :
  PE X (.Call (.Name x p) (e :: es) [] pos) (tCall sp [] E0 t):=by
 obtain ⟨f,fd,F,hm,hk,hb⟩:=h
 exact pe_call F hr hg hm hk hb .nil pass0 ha hdb he hpl
end
noncomputable def ObjK (K:PySem.W.Frag) (H:Hp) (p:Addr):Prop:=(∃ xs,SqL K H p xs)∨(∃ xs,SqT K H p xs)∨∃ kvs,Rd H p (.dK kvs)
noncomputable def isIntV (K:PySem.W.Frag) (x:V) (H:Hp) (b:Bool):Prop:=match x with
 | .non=>b=false | .bl _=>b=true | .int _=>b=true | .str _=>b=false
 | .ref p=>b=false∧ObjK K H p
 | _=>False
noncomputable def isBoolV (K:PySem.W.Frag) (x:V) (H:Hp) (b:Bool):Prop:=match x with
 | .non=>b=false | .bl _=>b=true | .int _=>b=false | .str _=>b=false
 | .ref p=>b=false∧ObjK K H p
 | _=>False
noncomputable def isStrV (K:PySem.W.Frag) (x:V) (H:Hp) (b:Bool):Prop:=match x with
 | .non=>b=false | .bl _=>b=false | .int _=>b=false | .str _=>b=true
 | .ref p=>b=false∧ObjK K H p
 | _=>False
noncomputable def isTupV (K:PySem.W.Frag) (x:V) (H:Hp) (b:Bool):Prop:=match x with
 | .non=>b=false | .bl _=>b=false | .int _=>b=false | .str _=>b=false
 | .ref p=>(b=true∧∃ xs,SqT K H p xs)∨(b=false∧((∃ xs,SqL K H p xs)∨∃ kvs,Rd H p (.dK kvs)))
 | _=>False
section
variable {X:Cx}
noncomputable def rIs (T:String) (r:V→Hp→Bool→Prop):List V→Hp→VK→Prop:=fun xs H Q=>Ex_2_3 (fun x b=>xs=[x,.ty T]) (fun x b=>r x H b) (fun x b=>Q (.bl b) H)
theorem inst_yes {pins:List (Addr×Obj)} {s:Shared} {σ:St} {H:Hp} {Q:VK} {u:Value} {S T:String} (I:Inv X pins σ H s) (ht:s.TypeIs u S) (m:typeOf (.type T)=pure (.type "type")) (sb:isSubtype (.type S) (.type T)=pure true) (q:Q (.bl true) H) :
  wpAny (model X.prog X.w) X.A (call (.builtin "isinstance") [u,.type T]) (EP X pins σ Q) X.xe s:=call_isinstance_yes ht m sb ⟨.bl true,H,I,rfl,q⟩
theorem lst_obj {pins:List (Addr×Obj)} {s:Shared} {σ:St} {H:Hp} {p:Addr} {xs:List V} (I:Inv X pins σ H s) (h:SqL X.K H p xs):∃ o,s.heap.get? p=some o∧o.cls=.type "list":=by
 obtain ⟨its,_,⟨o,n,e,c,_⟩,_⟩:=I.list h
 exact ⟨o,e,c⟩
theorem tup_obj {pins:List (Addr×Obj)} {s:Shared} {σ:St} {H:Hp} {p:Addr} {xs:List V} (I:Inv X pins σ H s) (h:SqT X.K H p xs):∃ o,s.heap.get? p=some o∧o.cls=.type "tuple":=by
 obtain ⟨its,_,⟨o,e,c,_⟩,_⟩:=I.tuple h
 exact ⟨o,e,c⟩
theorem dk_obj {pins:List (Addr×Obj)} {s:Shared} {σ:St} {H:Hp} {p:Addr} {kvs:List (Key×V)} (I:Inv X pins σ H s) (h:Rd H p (.dK kvs)):∃ o,s.heap.get? p=some o∧o.cls=.type "dict":=by
 obtain ⟨_,_,vs,_,o,_,_,e,x,_⟩:=dk_rd I.hok h
 exact ⟨o,e,x.1⟩
section
variable {pins:List (Addr×Obj)} {s:Shared} {σ:St} {H:Hp} {Q:VK} {T:String} {p:Addr}
theorem no_non (I:Inv X pins σ H s) (hne:(Value.type "NoneType" == Value.type T)=false) (m:typeOf (.type T)=pure (.type "type")) (sb:isSubtype (.type "NoneType") (.type T)=pure false) (q:Q (.bl false) H) :
  wpAny (model X.prog X.w) X.A (call (.builtin "isinstance") [.none,.type T]) (EP X pins σ Q) X.xe s:=PySem.call_isinstance (isinstance_false_none hne m sb) ⟨.bl false,H,I.tok _,rfl,q⟩
theorem no_bl {b:Bool} (I:Inv X pins σ H s) (hne:(Value.type "bool" == Value.type T)=false) (m:typeOf (.type T)=pure (.type "type")) (sb:isSubtype (.type "bool") (.type T)=pure false) (q:Q (.bl false) H) :
  wpAny (model X.prog X.w) X.A (call (.builtin "isinstance") [.bool b,.type T]) (EP X pins σ Q) X.xe s:=PySem.call_isinstance (isinstance_false_bool hne m sb) ⟨.bl false,H,I.tok _,rfl,q⟩
theorem no_int {i:Int} {t:Tok} (I:Inv X pins σ H s) (hne:(Value.type "int" == Value.type T)=false) (m:typeOf (.type T)=pure (.type "type")) (sb:isSubtype (.type "int") (.type T)=pure false) (q:Q (.bl false) H) :
  wpAny (model X.prog X.w) X.A (call (.builtin "isinstance") [.int i t,.type T]) (EP X pins σ Q) X.xe s:=PySem.call_isinstance (isinstance_false_int hne m sb) ⟨.bl false,H,I.tok _,rfl,q⟩
theorem no_str {z:Str} {t:Tok} (I:Inv X pins σ H s) (hne:(Value.type "str" == Value.type T)=false) (m:typeOf (.type T)=pure (.type "type")) (sb:isSubtype (.type "str") (.type T)=pure false) (q:Q (.bl false) H) :
  wpAny (model X.prog X.w) X.A (call (.builtin "isinstance") [.str z t,.type T]) (EP X pins σ Q) X.xe s:=PySem.call_isinstance (isinstance_false_str hne m sb) ⟨.bl false,H,I.tok _,rfl,q⟩
theorem no_lst {xs:List V} (I:Inv X pins σ H s) (h:SqL X.K H p xs) (hne:(Value.type "list" == Value.type T)=false) (m:typeOf (.type T)=pure (.type "type")) (sb:isSubtype (.type "list") (.type T)=pure false) (q:Q (.bl false) H) :
  wpAny (model X.prog X.w) X.A (call (.builtin "isinstance") [.ref p,.type T]) (EP X pins σ Q) X.xe s:=PySem.call_isinstance (isinstance_false_list hne m sb) ⟨lst_obj I h,⟨.bl false,H,I.tok _,rfl,q⟩⟩
theorem no_tup {xs:List V} (I:Inv X pins σ H s) (h:SqT X.K H p xs) (hne:(Value.type "tuple" == Value.type T)=false) (m:typeOf (.type T)=pure (.type "type")) (sb:isSubtype (.type "tuple") (.type T)=pure false) (q:Q (.bl false) H) :
  wpAny (model X.prog X.w) X.A (call (.builtin "isinstance") [.ref p,.type T]) (EP X pins σ Q) X.xe s:=PySem.call_isinstance (isinstance_false_tuple hne m sb) ⟨tup_obj I h,⟨.bl false,H,I.tok _,rfl,q⟩⟩
theorem no_dk {kvs:List (Key×V)} (I:Inv X pins σ H s) (h:Rd H p (.dK kvs)) (hne:(Value.type "dict" == Value.type T)=false) (m:typeOf (.type T)=pure (.type "type")) (sb:isSubtype (.type "dict") (.type T)=pure false) (q:Q (.bl false) H) :
  wpAny (model X.prog X.w) X.A (call (.builtin "isinstance") [.ref p,.type T]) (EP X pins σ Q) X.xe s:=PySem.call_isinstance (isinstance_false_dict hne m sb) ⟨dk_obj I h,⟨.bl false,H,I.tok _,rfl,q⟩⟩
theorem no_obj (I:Inv X pins σ H s) (h:ObjK X.K H p) (m:typeOf (.type T)=pure (.type "type")) (n1:(Value.type "list" == Value.type T)=false) (s1:isSubtype (.type "list") (.type T)=pure false)
  (n2:(Value.type "tuple" == Value.type T)=false) (s2:isSubtype (.type "tuple") (.type T)=pure false) (n3:(Value.type "dict" == Value.type T)=false) (s3:isSubtype (.type "dict") (.type T)=pure false) (q:Q (.bl false) H) :
  wpAny (model X.prog X.w) X.A (call (.builtin "isinstance") [.ref p,.type T]) (EP X pins σ Q) X.xe s:=by
 rcases h with ⟨xs,h⟩ | ⟨xs,h⟩ | ⟨kvs,h⟩
 ·exact no_lst I h n1 m s1 q
 ·exact no_tup I h n2 m s2 q
 ·exact no_dk I h n3 m s3 q
end
theorem call_isInt:CallR X (.builtin "isinstance") (rIs "int" (isIntV X.K)):=by
 intro pins s σ H xs us Q I r h
 obtain ⟨x,b,rfl,hx,q⟩:=h
 obtain ⟨u,u',rfl,r1,r2⟩:=vals2 r
 cases r2
 cases x with
 | non=>cases r1; cases (show b=false from hx); exact no_non I (by decide) meta_int sub_NoneType_int q
 | bl z=>cases r1; cases (show b=true from hx); exact inst_yes I rfl meta_int sub_bool_int q
 | int z=>obtain ⟨t,rfl⟩:=r1; cases (show b=true from hx); exact inst_yes I rfl meta_int sub_int_int q
 | str z=>obtain ⟨t,rfl⟩:=r1; cases (show b=false from hx); exact no_str I (by decide) meta_int sub_str_int q
 | ref p=>cases r1; obtain ⟨rfl,o⟩:=hx; exact no_obj I o meta_int (by decide) sub_list_int (by decide) sub_tuple_int (by decide) sub_dict_int q
 | _=>exact False.elim hx
theorem call_isBool:CallR X (.builtin "isinstance") (rIs "bool" (isBoolV X.K)):=by
 intro pins s σ H xs us Q I r h
 obtain ⟨x,b,rfl,hx,q⟩:=h
 obtain ⟨u,u',rfl,r1,r2⟩:=vals2 r
 cases r2
 cases x with
 | non=>cases r1; cases (show b=false from hx); exact no_non I (by decide) meta_bool sub_NoneType_bool q
 | bl z=>cases r1; cases (show b=true from hx); exact inst_yes I rfl meta_bool sub_bool_bool q
 | int z=>obtain ⟨t,rfl⟩:=r1; cases (show b=false from hx); exact no_int I (by decide) meta_bool sub_int_bool q
 | str z=>obtain ⟨t,rfl⟩:=r1; cases (show b=false from hx); exact no_str I (by decide) meta_bool sub_str_bool q
 | ref p=>cases r1; obtain ⟨rfl,o⟩:=hx; exact no_obj I o meta_bool (by decide) sub_list_bool (by decide) sub_tuple_bool (by decide) sub_dict_bool q
 | _=>exact False.elim hx
theorem call_isStr:CallR X (.builtin "isinstance") (rIs "str" (isStrV X.K)):=by
 intro pins s σ H xs us Q I r h
 obtain ⟨x,b,rfl,hx,q⟩:=h
 obtain ⟨u,u',rfl,r1,r2⟩:=vals2 r
 cases r2
 cases x with
 | non=>cases r1; cases (show b=false from hx); exact no_non I (by decide) meta_str sub_NoneType_str q
 | bl z=>cases r1; cases (show b=false from hx); exact no_bl I (by decide) meta_str sub_bool_str q
 | int z=>obtain ⟨t,rfl⟩:=r1; cases (show b=false from hx); exact no_int I (by decide) meta_str PyProof.Rows.sub_int_str q
 | str z=>obtain ⟨t,rfl⟩:=r1; cases (show b=true from hx); exact inst_yes I rfl meta_str sub_str_str q
 | ref p=>cases r1; obtain ⟨rfl,o⟩:=hx; exact no_obj I o meta_str (by decide) sub_list_str (by decide) sub_tuple_str (by decide) sub_dict_str q
 | _=>exact False.elim hx
theorem call_isTup:CallR X (.builtin "isinstance") (rIs "tuple" (isTupV X.K)):=by
 intro pins s σ H xs us Q I r h
 obtain ⟨x,b,rfl,hx,q⟩:=h
 obtain ⟨u,u',rfl,r1,r2⟩:=vals2 r
 cases r2
 cases x with
 | non=>cases r1; cases (show b=false from hx); exact no_non I (by decide) meta_tuple sub_NoneType_tuple q
 | bl z=>cases r1; cases (show b=false from hx); exact no_bl I (by decide) meta_tuple sub_bool_tuple q
 | int z=>obtain ⟨t,rfl⟩:=r1; cases (show b=false from hx); exact no_int I (by decide) meta_tuple sub_int_tuple q
 | str z=>obtain ⟨t,rfl⟩:=r1; cases (show b=false from hx); exact no_str I (by decide) meta_tuple sub_str_tuple q
 | ref p =>
  cases r1
  rcases hx with ⟨rfl,xs,o⟩ | ⟨rfl,⟨xs,o⟩ | ⟨kvs,o⟩⟩
  ·exact inst_yes I (tup_obj I o) meta_tuple sub_tuple_tuple q
  ·exact no_lst I o (by decide) meta_tuple sub_list_tuple q
  ·exact no_dk I o (by decide) meta_tuple sub_dict_tuple q
 | _=>exact False.elim hx
end
end L2
namespace L2
open PySem PySem.Spec PyProof.Rows
theorem bt_len:bootBuiltins "len"=some (.builtin "len"):=by decide +kernel
theorem bt_min:bootBuiltins "min"=some (.builtin "min"):=by decide +kernel
theorem bt_max:bootBuiltins "max"=some (.builtin "max"):=by decide +kernel
theorem bt_sorted:bootBuiltins "sorted"=some (.builtin "sorted"):=by decide +kernel
theorem bt_isinstance:bootBuiltins "isinstance"=some (.builtin "isinstance"):=by decide +kernel
theorem bt_int:bootBuiltins "int"=some (.type "int"):=by decide +kernel
theorem bt_bool:bootBuiltins "bool"=some (.type "bool"):=by decide +kernel
theorem bt_str:bootBuiltins "str"=some (.type "str"):=by decide +kernel
theorem bt_list:bootBuiltins "list"=some (.type "list"):=by decide +kernel
theorem bt_tuple:bootBuiltins "tuple"=some (.type "tuple"):=by decide +kernel
theorem bt_dict:bootBuiltins "dict"=some (.type "dict"):=by decide +kernel
theorem bt_set:bootBuiltins "set"=some (.type "set"):=by decide +kernel
theorem Same.seqT {K:PySem.W.Frag} {H H':Hp} {a:Addr} {xs:List V} (e:Same H H') (h:SqT K H a xs):SqT K H' a xs:=by
 rcases h with (h | ⟨o,h⟩) | h
 ·exact .inl (.inl (e _ _ h))
 ·exact .inl (.inr ⟨o,e _ _ h⟩)
 ·exact .inr h
theorem Same.new {H:Hp} {p:Addr} {o:HO} (h:H p=none):Same H (upd H p o):=fun b u e=>by rw [upd_ne (ne_of_none e h)]; exact e
theorem Same.then {H H1:Hp} {p:Addr} {o:HO} (s:Same H H1) (h:H1 p=none):Same H (upd H1 p o):=s.trans (Same.new h)
theorem SqT.new {K:PySem.W.Frag} {H:Hp} {p:Addr} {xs:List V}:SqT K (upd H p (.tup xs)) p xs:=SqT.of upd_same
theorem SqL.new {K:PySem.W.Frag} {H:Hp} {p:Addr} {xs:List V}:SqL K (upd H p (.lst xs)) p xs:=SqL.of upd_same
inductive Deed where
 | put (x:Str) (n:Int) (g:V)
 | get (c x:Str) (g:V)
 | swap (c x:Str) (n:Int) (g:V)
 | fence (g:V)
 | bar (g:V)
noncomputable def Deed.items:Deed→List V
 | .put x n g=>[.str "put",.str x,.int n,g]
 | .get c x g=>[.str "get",.str c,.str x,g]
 | .swap c x n g=>[.str "swap",.str c,.str x,.int n,g]
 | .fence g=>[.str "fence",g]
 | .bar g=>[.str "bar",g]
noncomputable def Deed.place:Deed→V
 | .put x _ _=>.str x | .get _ x _=>.str x | .swap _ x _ _=>.str x | _=>.non
noncomputable def Deed.writes:Deed→Bool
 | .put _ _ _=>true | .swap _ _ _ _=>true | _=>false
noncomputable def Deed.reads:Deed→Bool
 | .get _ _ _=>true | .swap _ _ _ _=>true | _=>false
noncomputable def Deed.number:Deed→V
 | .put _ n _=>.int n | .swap _ _ n _=>.int n | _=>.non
noncomputable def Deed.cup:Deed→V
 | .get c _ _=>.str c | .swap c _ _ _=>.str c | _=>.non
noncomputable def Deed.guard:Deed→V
 | .put _ _ g=>g | .get _ _ g=>g | .swap _ _ _ g=>g | .fence g=>g | .bar g=>g
end L2
namespace L2
open PySem PySem.Spec PyProof.Rows
section
variable {X:Cx} {st:Stmt} {rest:List Stmt} {t u:TS}
noncomputable def tCut (t u:TS):TS:=fun D σ H=>Ex_1_2 (fun (R:St→Hp→Prop)=>t { D with nx:=R } σ H) (fun R=>∀ σ' H',R σ' H'→u D σ' H')
theorem pss_cut (h1:PS X st t) (h2:PSs X rest u):PSs X (st :: rest) (tCut t u):=by
 intro pins s σ H D I h
 obtain ⟨R,h,hR⟩:=h
 refine wpAny_execs_cons (thn (h1 pins s σ H { D with nx:=R } I h) fun f s1 q=>?_)
 cases f with
 | next =>
  obtain ⟨σ',H',I',q⟩:=q
  exact h2 pins s1 σ' H' D I' (hR σ' H' q)
 | brk=>exact q
 | cont=>exact q
 | ret v=>exact q
end
theorem qb {Q:VK} {H:Hp} {b b':Bool} (q:Q (.bl b) H) (e:b=b'):Q (.bl b') H:=e ▸ q
theorem ifT {b:Bool} {A B:Prop} (e:b=true) (h:A):if b=true then A else B:=by rw [if_pos e]; exact h
theorem ifF {b:Bool} {A B:Prop} (e:b=false) (h:B):if b=true then A else B:=by rw [if_neg (by rw [e]; exact Bool.false_ne_true)]; exact h
theorem ifDt {c A B:Prop} [Decidable c] (hc:c) (h:A):if decide c=true then A else B:=ifT (decide_eq_true hc) h
theorem ifDf {c A B:Prop} [Decidable c] (hc:¬ c) (h:B):if decide c=true then A else B:=ifF (decide_eq_false hc) h
theorem ifNt {c A B:Prop} [Decidable c] (hc:¬ c) (h:A):if (!decide c)=true then A else B:=ifT (by rw [decide_eq_false hc]; rfl) h
theorem ifNf {c A B:Prop} [Decidable c] (hc:c) (h:B):if (!decide c)=true then A else B:=ifF (by rw [decide_eq_true hc]; rfl) h
theorem ifB {b:Bool} {A B:Prop} (h1:b=true→A) (h2:b=false→B):if b=true then A else B:=by
 cases b with
 | true=>exact ifT rfl (h1 rfl)
 | false=>exact ifF rfl (h2 rfl)
theorem ifD {c A B:Prop} [Decidable c] (h1:c→A) (h2:¬ c→B):if decide c=true then A else B:=by
 by_cases h:c
 ·exact ifDt h (h1 h)
 ·exact ifDf h (h2 h)
end L2
set_option Elab.async false
set_option linter.all false
set_option maxRecDepth 100000
set_option maxHeartbeats 4100000
namespace L2
open PySem PySem.Spec PyProof.Rows
section
variable {X:Cx}
theorem eqV_self {v:V} (h:flatV v=true):eqV v v=true:=by
 cases v with
 | non=>rfl
 | bl b=>exact beq_self_eq_true b
 | int i=>exact beq_self_eq_true i
 | str x=>exact beq_self_eq_true x
 | _=>cases h
end
end L2
namespace L2
open PySem PySem.Spec PyProof.Rows
end L2
namespace L2
open PySem PySem.Spec PyProof.Rows
end L2
set_option Elab.async false
set_option linter.all false
set_option maxRecDepth 100000
set_option maxHeartbeats 4100000
namespace L2
open PySem PySem.Spec PyProof.Rows
noncomputable abbrev askAll (ifs:List Expr) (cenv:Env):Sem Bool:=forIn ifs true fun q r=>if r=true then do let y ← isTrue q cenv (eval q cenv); pure (ForInStep.yield y) else pure (ForInStep.yield r)
noncomputable abbrev NoEx:Value→Shared→Prop:=fun _ _=>False
theorem codeAny_compLoop_any {prog:Program} {w:World} {A:Around} {R:Result→Shared→Prop} {s:Shared} {elt target iter:Expr} {ifs:List Expr} {scope:Scope} {pos:Pos} {it acc:Value} {cenv:Env} (W:Nat→Shared→Prop)
  (turn:∀ n sa,W n sa→wpAny (model prog w) A (pyNext it) (fun got sb=>match got with
   | none=>R (.ok .next) sb
   | some v=>wpAny (model prog w) A (letOwnedTupleGo target it v) (fun _ sc=>wpAny (model prog w) A (assign target cenv v) (fun _ sd =>
     wpAny (model prog w) A (askAll ifs cenv) (fun yes se =>
      if yes=true then wpAny (model prog w) A (eval elt cenv) (fun x sf =>
       wpAny (model prog w) A (call (.builtin "list.append") [acc,x]) (fun _ sg=>∃ m,m < n∧W m sg) NoEx sf) NoEx se
      else ∃ m,m < n∧W m se) NoEx sd) NoEx sc) NoEx sb) NoEx sa)
  (n:Nat) (h:W n s):codeAny (model prog w) A (.compLoop (.ListComp elt [⟨target,iter,ifs,0⟩] scope pos) 0 it acc cenv) R s:=by
 refine codeAny_loop rfl W (fun n sa hW=>?_) n h
 show wpAny _ A ((compTurn (.ListComp elt [⟨target,iter,ifs,0⟩] scope pos) 0 it acc cenv).onRaise (fun x=>do noteFrame x cenv; theTreesLotGoes x)) _ _ sa
 refine wpAny_noted ?_
 rw [compTurn_list]
 refine wpAny_bind (wpAny_standAt (wpAny_bind (wpAny_mono (turn n sa hW) (fun got sb hb=>?_) fun _ _ z=>z.elim)))
 cases got with
 | none=>exact wpAny_pure hb
 | some v =>
  refine wpAny_bind (wpAny_mono hb (fun _ sc hc=>?_) fun _ _ z=>z.elim)
  refine wpAny_bind (wpAny_mono hc (fun _ sd hd=>wpAny_bind (wpAny_mono hd (fun yes se he=>?_) fun _ _ z=>z.elim)) fun _ _ z=>z.elim)
  cases yes with
  | false=>exact wpAny_pure (And.intro rfl he)
  | true =>
   exact wpAny_bind (wpAny_bind (wpAny_mono he (fun x sf hf=>wpAny_bind (wpAny_mono hf (fun _ sg hg=>wpAny_pure (wpAny_pure ⟨rfl,hg⟩)) fun _ _ z=>z.elim)) fun _ _ z=>z.elim))
noncomputable def Cx.comp (X:Cx) (Nc:List Str) (scope:Scope) (cl:List (Str×Addr)) (C:Addr) (s3:Shared) (H3:Hp) (fp:List Addr) (pins:List (Addr×Obj)):Cx :=
 { X with N:=Nc,s₀:=s3,H₀:=H3,env:=compEnvC scope cl C X.env,outer:=X.stack,ex:=fp,fn:=fun _=>false,pn:=X.pn ++ pins,xe:=fun _ _=>False }
inductive Caps (X:Cx) (scope:Scope):List Nat→List Str→Prop
 | nil:Caps X scope [] []
 | cons {j:Nat} {y:Str} {js:List Nat} {ys:List Str}:X.N[j]?=some y→X.env.kindOf y=some .cell→(relabel scope X.env).names.lookup y=some .cell→Caps X scope js ys→Caps X scope (j :: js) (y :: ys)
inductive CapsCl (X:Cx):List (Str×Addr)→Prop
 | nil:CapsCl X []
 | cons {n:Str} {c:Addr} {r:List (Str×Addr)}:X.env.cells.lookup n=some c→CapsCl X r→CapsCl X ((n,c) :: r)
theorem CapsCl.at {X:Cx}:∀ {cl:List (Str×Addr)},CapsCl X cl→∀ x c,cl.lookup x=some c→X.env.cells.lookup x=some c
 | _,.nil,_,_,h=>by cases h
 | (n,d) :: r,.cons h1 h2,x,c,h=>by
  rw [List.lookup_cons] at h
  cases e:x == n with
  | true =>
   rw [e] at h
   have:d=c:=Option.some.inj h
   subst this
   rw [eq_of_beq e]
   exact h1
  | false=>rw [e] at h; exact CapsCl.at h2 x c h
structure CompSc (X:Cx) (Nc:List Str) (nt:Nat) (js:List Nat) (scope:Scope) (cl:List (Str×Addr)):Prop where
 clos:closureFor scope X.env=pure cl
 kind:scope.kind=.function
 cell:(scope.names.all fun y=>y.2 != .cell)=true
 names:(scope.names.all fun y=>y.2 != .local || scope.names.lookup y.1 == some .local)=true
 cls:CapsCl X cl
 has:(scope.names.all fun y=>y.2 != .free || (cl.lookup y.1).isSome)=true
 caps:Ex_2_3 (fun ts ys=>Nc=ts ++ ys) (fun ts ys=>ts.length=nt) (fun ts ys=>Caps X scope js ys)
noncomputable def capsOf (σ:St) (nt:Nat) (js:List Nat):St:=List.replicate nt none ++ js.map fun j=>(σ[j]?).getD none
theorem Caps.length {X:Cx} {scope:Scope} {js:List Nat} {ys:List Str} (h:Caps X scope js ys):js.length=ys.length:=by
 induction h with
 | nil=>rfl
 | cons _ _ _ r ih=>rw [List.length_cons,List.length_cons,ih]
theorem Caps.get {X:Cx} {scope:Scope} {js:List Nat} {ys:List Str} (c:Caps X scope js ys):∀ (i:Nat) y,ys[i]?=some y→∃ j,js[i]?=some j∧X.N[j]?=some y∧X.env.kindOf y=some .cell∧(relabel scope X.env).names.lookup y=some .cell:=by
 induction c with
 | nil=>intro i y h; cases h
 | cons h1 h2 h3 r ih =>
  intro i y h
  cases i with
  | zero=>cases h; exact ⟨_,rfl,h1,h2,h3⟩
  | succ i=>exact ih i y h
theorem relabel_free {scope:Scope} {env:Env} (hc:(scope.names.all fun y=>y.2 != .cell)=true) {x:Str} {k:NameKind} (hk:k=.cell∨k=.free) (h:(relabel scope env).names.lookup x=some k):(x,NameKind.free)∈scope.names:=by
 have hm:(x,k)∈(relabel scope env).names:=PySem.mem_of_lookup h
 obtain ⟨⟨n,k'⟩,hp,e⟩:=List.mem_map.mp hm
 have nc:k'≠.cell:=by
  have:=List.all_eq_true.mp hc _ hp
  simpa using this
 dsimp only at e
 split at e
 ·rename_i cond
  have e1:n=x:=congrArg Prod.fst e
  have kf:k'=.free:=by
   simp only [Bool.and_eq_true,beq_iff_eq] at cond
   exact cond.1.1
  rw [← e1,← kf]
  exact hp
 ·have e1:n=x:=congrArg Prod.fst e
  have e2:k'=k:=congrArg Prod.snd e
  rcases hk with z | z
  ·exact absurd (e2.trans z) nc
  ·rw [← e1,← (e2.trans z)]
   exact hp
section
variable {X:Cx} {Nc:List Str} {nt:Nat} {js:List Nat} {scope:Scope} {cl:List (Str×Addr)}
theorem CompSc.lk (S:CompSc X Nc nt js scope cl) {x:Str} {k:NameKind} (hk:k=.cell∨k=.free) (h:(relabel scope X.env).names.lookup x=some k):∃ c,cl.lookup x=some c:=by
 have hm:=relabel_free S.cell hk h
 have:=List.all_eq_true.mp S.has _ hm
 have h2:(cl.lookup x).isSome=true:=by simpa using this
 exact Option.isSome_iff_exists.mp h2
theorem comp_start {pins:List (Addr×Obj)} {σ:St} {H3:Hp} {s3:Shared} {fp:List Addr} {h1:Heap} {m:Str→Option Value} {tk:Nat} (S:CompSc X Nc nt js scope cl) (I:Inv X pins σ H3 s3)
  (hf:∀ b∈fp,FpOk X pins H3 b) (hfo:∀ b∈fp,∃ o,s3.heap.get? b=some o) (hns:h1.Ns s3.heap.objs.size m) (hk:∀ b o,s3.heap.get? b=some o→h1.get? b=some o) :
  Inv (X.comp Nc scope cl s3.heap.objs.size s3 H3 fp pins) [] (capsOf σ nt js) H3 { s3 with heap:=h1,toks:=tk }:=by
 have fresh:H3 s3.heap.objs.size=none:=I.hok.fresh (Nat.le_refl _)
 have nst:∀ b∈fp,b ∉ frs X.stack:=fun b hb z=>by
  obtain ⟨_,n1,n2,_⟩:=hf b hb
  rcases List.mem_cons.mp (I.stkSub b z) with e | e
  ·exact n1 e
  ·exact n2 e
 have ok:(X.comp Nc scope cl s3.heap.objs.size s3 H3 fp pins).Ok:=by
  refine ⟨I.ok.mod,S.kind,I.ok.glob,I.ok.blt,Nat.le_refl _,fun x y c a b=>I.ok.inj x y c (S.cls.at x c a) (S.cls.at y c b),fun x hx=>?_,fun x c z=>?_,I.ok.hd,I.ok.frames,.inl rfl,fun b hb=>⟨?_,fun x c e=>?_⟩,I.bs,Nat.le_trans I.ok.bsz I.sz,fun b o e hb=>?_,nst,I.stack,I.stkFree⟩
  ·rcases hx with hx | hx
   ·exact S.lk (.inl rfl) hx
   ·exact S.lk (.inr rfl) hx
  ·exact absurd (show false=true from z) Bool.false_ne_true
  ·obtain ⟨o,ho⟩:=hfo b hb
   exact Nat.ne_of_lt (Heap.lt_size ho)
  ·exact (hf b hb).2.2.2.2.1 x c (S.cls.at x c e)
  ·rcases (hf b hb).2.2.2.1 with z | z
   ·exact I.ok.noex b o e z
   ·exact absurd (Nat.lt_of_lt_of_le (Heap.lt_size e) (Nat.le_trans I.ok.bsz z)) (Nat.lt_irrefl _)
 have cellAt:∀ x c v,X.env.cells.lookup x=some c→s3.heap.IsCell c v→h1.IsCell c v:=fun x c v _ ⟨o,ho,hd⟩=>⟨o,hk _ _ ho,hd⟩
 refine ⟨ok,rfl,I.bare,Un.kept hk,⟨m,hns,fun i y v e1 e2 e3=>?_⟩,fun x c e=>?_,fresh,fun x c e=>I.freeC x c (S.cls.at x c e),fun p hp=>?_,I.hok.kept hk,?_⟩
 ·obtain ⟨ts,ys,hN,hnt,hc⟩:=S.caps
  have e1:Nc[i]?=some y:=e1
  by_cases hi:i < nt
  ·unfold capsOf at e2
   rw [List.getElem?_append_left (by simpa using hi),List.getElem?_replicate] at e2
   split at e2 <;> cases e2
  ·rw [hN,List.getElem?_append_right (by lia)] at e1
   unfold capsOf at e2
   rw [List.getElem?_append_right (by simpa using hi),List.length_replicate,List.getElem?_map] at e2
   rw [hnt] at e1
   obtain ⟨j,a1,a2,a3,a4⟩:=hc.get _ y e1
   rw [a1] at e2
   have e2':(σ[j]?).getD none=some v:=Option.some.inj e2
   have e2'':σ[j]?=some (some v):=by
    cases q:σ[j]? with
    | none=>rw [q] at e2'; cases e2'
    | some z=>rw [q] at e2'; exact congrArg some e2'
   obtain ⟨mX,hnX,hlX⟩:=I.loc
   obtain ⟨u,r,l⟩:=hlX j y v a2 e2'' (.inr (.inl a3))
   refine ⟨u,r,.inr ⟨.inl a4,?_⟩⟩
   rcases l with ⟨k1,_⟩ | ⟨_,c,hc1,hc2⟩
   ·rw [a3] at k1; cases k1
   ·obtain ⟨c',hc'⟩:=S.lk (.inl rfl) a4
    have:=S.cls.at y c' hc'
    rw [hc1] at this
    have e:c=c':=Option.some.inj this
    subst e
    exact ⟨c,hc',cellAt y c _ hc1 hc2⟩
 ·obtain ⟨v,z⟩:=I.cell x c (S.cls.at x c e)
  exact ⟨v,cellAt x c v (S.cls.at x c e) z⟩
 ·have hp':p∈X.pn ++ pins:=by
   have hp:p∈(X.pn ++ pins) ++ []:=hp
   rwa [List.append_nil] at hp
  obtain ⟨e,n,ne,nf,d⟩:=I.pin p hp'
  refine ⟨hk _ _ e,n,Nat.ne_of_lt (Heap.lt_size e),fun z=>?_,d⟩
  rcases List.mem_cons.mp (I.stkSub p.1 z) with q | q
  ·exact ne q
  ·exact nf q
 ·obtain ⟨ts,ys,hN,hnt,hc⟩:=S.caps
  show (capsOf σ nt js).length=Nc.length
  unfold capsOf
  rw [hN,List.length_append,List.length_append,List.length_replicate,List.length_map,hc.length,hnt]
theorem comp_end {pins:List (Addr×Obj)} {σ:St} {H3 Hf:Hp} {s3 s':Shared} {fp:List Addr} {σ':St} {pins':List (Addr×Obj)} (I:Inv X pins σ H3 s3) (hf:∀ b∈fp,FpOk X pins H3 b)
  (Ic:Inv (X.comp Nc scope cl s3.heap.objs.size s3 H3 fp pins) pins' σ' Hf s'):Inv X pins σ Hf s'∧FpOk X pins Hf s3.heap.objs.size∧∃ m,s'.heap.Ns s3.heap.objs.size m:=by
 obtain ⟨m,hn,_⟩:=Ic.loc
 refine ⟨I.call' Ic.os Ic.base Ic.hok Ic.bare fun b hb=>?_,I.fpOk (Nat.le_refl _) Ic.free,m,hn⟩
 obtain ⟨_,n1,_,n3,n4,n5⟩:=hf b hb
 exact ⟨n3,n1,n4,n5⟩
end
noncomputable def PTs (X:Cx) (ifs:List Expr) (t:TT):Prop :=
 ∀ (pins:List (Addr×Obj)) (s:Shared) (σ:St) (H:Hp) (Q:Bool→Hp→Prop),Inv X pins σ H s→t σ H Q →
  wpAny (model X.prog X.w) X.A (askAll ifs X.env) (TP X pins σ Q) X.xe s
noncomputable def tTrue:TT:=fun _ H Q=>Q true H
theorem pts_nil {X:Cx}:PTs X [] tTrue:=fun pins s σ H Q I h=>wpAny_tests_nil ⟨H,I,h⟩
theorem pts_one {X:Cx} {c:Expr} {t:TT} (h:PT X c t):PTs X [c] t:=fun pins s σ H Q I q=>wpAny_tests_one (h pins s σ H Q I q)
end L2
namespace L2
open PySem PySem.Spec PyProof.Rows
noncomputable def tLoopC (g:TG) (tt:TT) (te:TE) (σc:St) (D:Addr) (J:It) (H:Hp) (F:Hp→Prop):Prop :=
 ∃ W:Nat→Nat→St→List V→Hp→Prop,(∃ m,W 0 m σc [] (upd H D (.lst [])))∧∀ i m σ ys H,W i m σ ys H→H D=some (.lst ys) ∧
  ((J.stop i H∧F H)∨(J.go i H∧ys.length < sizeLine∧∃ N:St→List V→Hp→Prop,(∀ σ' ys' H',N σ' ys' H'→∃ m',m' < m∧W (i + 1) m' σ' ys' H') ∧
   ∀ x H',J.yld i H x H'→g x σ H' fun σ2 H2=>tt σ2 H2 fun b H3=>if b=true then te σ2 H3 fun y H4=>H4 D=some (.lst ys)∧N σ2 (ys ++ [y]) (upd H4 D (.lst (ys ++ [y]))) else N σ2 ys H3))
noncomputable def tComp (wi:TI) (g:TG) (tt:TT) (te:TE) (nt:Nat) (js:List Nat):TE:=fun σ H Q=>wi σ H fun J H1=>∀ D,H1 D=none→tLoopC g tt te (capsOf σ nt js) D J H1 fun Hf=>Q (.ref D) Hf
section
variable {X:Cx} {Nc:List Str} {nt:Nat} {js:List Nat} {scope:Scope} {cl:List (Str×Addr)} {target elt iter:Expr} {ifs:List Expr} {pos:Pos} {g:TG} {tt:TT} {te:TE}
theorem comp_block {pins:List (Addr×Obj)} {σ:St} {H2:Hp} {s2:Shared} {it:Addr} {fp:List Addr} {tn:Nat→Heap→Prop} {J:It} {F:Addr→Hp→Prop} {E:Value→Shared→Prop} {RR:Value→Addr→Result→Shared→Prop}
  (hcalm:X.calm=true) (S:CompSc X Nc nt js scope cl) (I:Inv X pins σ H2 s2) (T:Turn X.prog X.w X.K target J fp it tn) (st:tn 0 s2.heap) (hf:∀ b∈fp,FpOk X pins H2 b)
  (body:∀ C s3 H3 fp pins,PG (X.comp Nc scope cl C s3 H3 fp pins) target g∧PTs (X.comp Nc scope cl C s3 H3 fp pins) ifs tt∧PE (X.comp Nc scope cl C s3 H3 fp pins) elt te)
  (h:∀ D,H2 D=none→tLoopC g tt te (capsOf σ nt js) D J H2 (F D))
  (hRR:∀ (D C:Addr) (Hf:Hp) (s':Shared),F D Hf→Inv X pins σ Hf s'→FpOk X pins Hf C→(∃ m,s'.heap.Ns C m)→RR (.ref D) C (.ok .next) s') :
  wpAny (model X.prog X.w) X.A (newList []) (fun acc s₃=>wpAny (model X.prog X.w) X.A (newFunctionEnv scope X.env.globals cl [] X.env.qual none .none (some X.env)) (fun cenv s₄ =>
   codeAny (model X.prog X.w) X.A (.compStart (.ListComp elt [⟨target,iter,ifs,0⟩] scope pos) 0 (.ref it) acc { cenv with scope:=relabel scope X.env }) (RR acc cenv.locals) s₄) E s₃) E s2:=by
 have hD:H2 s2.heap.objs.size=none:=I.hok.fresh (Nat.le_refl _)
 obtain ⟨W,⟨m0,w0⟩,turn⟩:=h _ hD
 have I3:Inv X pins σ (upd H2 s2.heap.objs.size (.lst [])) { s2 with heap:=s2.heap.push { cls:=.type "list",data:=.seq ([]:List Value).toArray } } :=
  I.laid (t':=s2.toks) (fun b u e=>Heap.get?_push_of_some _ e) (Nat.le_refl _) ⟨Nat.zero_le _,[],0,.nil,Heap.get?_push_size _ rfl⟩
 have neD:∀ b∈fp,b≠s2.heap.objs.size:=fun b hb=>by
  obtain ⟨o,ho,_⟩:=T.obj _ _ st b hb
  exact Nat.ne_of_lt (Heap.lt_size ho)
 have hf3:∀ b∈fp,FpOk X pins (upd H2 s2.heap.objs.size (.lst [])) b:=fun b hb=>⟨by rw [upd_ne (neD b hb)]; exact (hf b hb).1,(hf b hb).2⟩
 refine wpAny_newObj_type (wpAny_newFunctionEnv (fun y hy=>?_) (by intro y hy; simp at hy) (fun h1 hns1 hsb1=>?_) S.kind) (by show 0≤sizeLine; decide)
 ·have:=List.all_eq_true.mp S.cell y hy
  simpa using this
 obtain ⟨s3,hs3⟩:∃ s3,({ s2 with heap:=s2.heap.push { cls:=.type "list",data:=.seq ([]:List Value).toArray } }:Shared)=s3:=⟨_,rfl⟩
 rw [hs3] at I3 ⊢
 have e3:s2.heap.push { cls:=.type "list",dict:=none,data:=.seq ([]:List Value).toArray }=s3.heap:=by rw [← hs3]
 dsimp only at hns1 hsb1 ⊢
 rw [e3] at hns1 hsb1
 have old:∀ b o,s3.heap.get? b=some o→h1.get? b=some o:=fun b o e=>(hsb1.2 b (Nat.ne_of_lt (Heap.lt_size e))).trans (Heap.get?_push_of_some _ e)
 have st3:tn 0 s3.heap:=T.keep _ _ _ st fun b _ o e=>by rw [← e3]; exact Heap.get?_push_of_some _ e
 have hfo:∀ b∈fp,∃ o,s3.heap.get? b=some o:=fun b hb=>let ⟨o,ho,_⟩:=T.obj _ _ st3 b hb; ⟨o,ho⟩
 have Ic0:=comp_start (tk:=s3.toks + ([]:List (Str×Value)).length) S I3 hf3 hfo hns1 old
 have st4:tn 0 h1:=T.keep _ _ _ st3 fun b _ o e=>old b o e
 obtain ⟨hg,ht,he⟩:=body s3.heap.objs.size s3 (upd H2 s2.heap.objs.size (.lst [])) fp pins
 obtain ⟨Xc,hX⟩:∃ Xc,X.comp Nc scope cl s3.heap.objs.size s3 (upd H2 s2.heap.objs.size (.lst [])) fp pins=Xc:=⟨_,rfl⟩
 rw [hX] at Ic0 hg ht he
 have p1:X.prog=Xc.prog:=by rw [← hX]; rfl
 have p2:X.w=Xc.w:=by rw [← hX]; rfl
 have p3:X.A=Xc.A:=by rw [← hX]; rfl
 have p4:Xc.K=X.K:=by rw [← hX]; rfl
 have p5:Xc.env=compEnvC scope cl s3.heap.objs.size X.env:=by rw [← hX]; rfl
 have p6:Xc.xe=fun _ _=>False:=by rw [← hX]; rfl
 have p7:Xc.calm=true:=by rw [← hX]; exact hcalm
 have stat:∀ {H':Hp},(∀ b∈fp,H' b=none)→∀ b∈fp,FpOk Xc [] H' b:=fun {H'} hn b hb=>by
  rw [← hX]
  obtain ⟨n0,n1,n2,n3,n4,n5⟩:=hf3 b hb
  refine ⟨hn b hb,?_,?_,.inl hb,fun x c e=>n4 x c (S.cls.at x c e),fun p hp=>n5 p ?_⟩
  ·obtain ⟨o,ho⟩:=hfo b hb
   exact Nat.ne_of_lt (Heap.lt_size ho)
  ·intro z
   rcases List.mem_cons.mp (I3.stkSub b z) with e | e
   ·exact n1 e
   ·exact n2 e
  ·have hp:p∈(X.pn ++ pins) ++ []:=hp
   rwa [List.append_nil] at hp
 have loop:codeAny (model X.prog X.w) X.A (.compLoop (.ListComp elt [⟨target,iter,ifs,0⟩] scope pos) 0 (.ref it) (.ref s2.heap.objs.size) (compEnvC scope cl s3.heap.objs.size X.env)) (RR (.ref s2.heap.objs.size) s3.heap.objs.size)
   { s3 with heap:=h1,toks:=s3.toks + ([]:List (Str×Value)).length }:=by
  rw [← p5]
  refine codeAny_compLoop_any (fun n s'=>∃ i σ' ys H',Inv Xc [] σ' H' s'∧tn i s'.heap∧(∀ b∈fp,H' b=none)∧W i n σ' ys H') ?_ m0 ⟨0,capsOf σ nt js,[],_,Ic0,st4,fun b hb=>(hf3 b hb).1,w0⟩
  rintro n s5 ⟨i,σ5,ys,H5,I5,st5,fr5,w5⟩
  obtain ⟨hD5,w5⟩:=turn i n σ5 ys H5 w5
  rw [p3]
  rcases w5 with ⟨stop,fin⟩ | ⟨go,hlen,N,hN,step⟩
  ·refine thn (T.done Xc p1.symm p2.symm p4 p7 i [] s5 σ5 H5 _ I5 (stat fr5) st5 stop) fun r s6 ⟨hr,I6⟩=>?_
   subst hr
   rw [← hX] at I6
   obtain ⟨a1,a2,a3⟩:=comp_end I3 hf3 I6
   exact hRR _ _ H5 s6 fin a1 a2 a3
  ·refine thn (T.item Xc p1.symm p2.symm p4 p7 i [] s5 σ5 H5 _ I5 (stat fr5) st5 go) fun r s6 ⟨u,hr,h6⟩=>?_
   subst hr
   refine thn h6 fun _ s7 ⟨x,H7,I7,r7,y7,st7,fr7⟩=>?_
   have I7':=I7.pinned (stat fr7) (T.obj _ _ st7)
   have hg':=hg _ s7 σ5 H7 x u _ I7' r7 (step x H7 y7)
   rw [p6,← p1,← p2] at hg'
   refine thn hg' fun _ s8 ⟨σ8,H8,I8,q8⟩=>?_
   have ht':=ht _ s8 σ8 H8 _ I8 q8
   rw [p6,← p1,← p2] at ht'
   refine thn ht' fun ok s9 ⟨H9,I9,q9⟩=>?_
   have again:∀ {σ':St} {H':Hp} {ys':List V} {sz:Shared},Inv Xc ([] ++ pinsAt fp s7.heap) σ' H' sz→N σ' ys' H'→∃ m,m < n∧∃ i σ' ys H',Inv Xc [] σ' H' sz∧tn i sz.heap∧(∀ b∈fp,H' b=none)∧W i m σ' ys H':=fun {σ' H' ys' sz} Iz nz=>by
    obtain ⟨m',hm,wz⟩:=hN σ' ys' H' nz
    refine ⟨m',hm,i + 1,σ',ys',H',Iz.unpinned,T.keep _ _ _ st7 fun b hb o e=>(Iz.pin (b,o) (List.mem_append_right _ (List.mem_append_right _ (mem_pinsAt hb e)))).1,fun b hb=>?_,wz⟩
    obtain ⟨o,e,d⟩:=T.obj _ _ st7 b hb
    exact (Iz.pin (b,o) (List.mem_append_right _ (List.mem_append_right _ (mem_pinsAt hb e)))).2.1
   cases ok with
   | false=>exact again I9 q9
   | true =>
    have he':=he _ s9 σ8 H9 _ I9 q9
    rw [p6,← p1,← p2] at he'
    refine thn he' fun v s10 ⟨y,H10,I10,r10,hD10,q10⟩=>?_
    have mt:=mt_append (X:=Xc) _ s10 σ8 H10 (.ref s2.heap.objs.size) [y] (.ref s2.heap.objs.size) [v] (fun _ H'=>N σ8 (ys ++ [y]) H') I10 rfl (.cons r10 .nil) ⟨_,ys,y,rfl,rfl,hD10,hlen,q10⟩
    rw [p6,← p1,← p2] at mt
    refine thn mt fun _ s11 ⟨_,H11,I11,_,q11⟩=>?_
    exact again I11 q11
 exact codeAny_compStart_list loop (T.self _ 0 _ _ _ st4 loop)
end
end L2
namespace L2
open PySem PySem.Spec PyProof.Rows
section
variable {X:Cx} {Nc:List Str} {nt:Nat} {js:List Nat} {scope:Scope} {cl:List (Str×Addr)} {target elt iter:Expr} {ifs:List Expr} {pos spos py:Pos} {wi:TI} {g:TG} {tt:TT} {te:TE}
theorem names_ok (h:(scope.names.all fun y=>y.2 != .local || scope.names.lookup y.1 == some .local)=true):∀ y∈scope.names,y.2=.local→scope.names.lookup y.1=some .local:=fun y hy e=>by
 have:=List.all_eq_true.mp h y hy
 rw [e] at this
 simpa using this
theorem pe_comp (hcalm:X.calm=true) (S:CompSc X Nc nt js scope cl) (hi:PI X target iter wi)
  (body:∀ C s3 H3 fp pins,PG (X.comp Nc scope cl C s3 H3 fp pins) target g∧PTs (X.comp Nc scope cl C s3 H3 fp pins) ifs tt∧PE (X.comp Nc scope cl C s3 H3 fp pins) elt te)
  (hs:∀ x,foldedSetIterable iter X.env x=pure x:=by intro _; rfl):PE X (.ListComp elt [⟨target,iter,ifs,0⟩] scope pos) (tComp wi g tt te nt js):=by
 intro pins s σ H Q I h
 rw [eval_ListComp]
 refine wpAny_comprehension_free (use:=none) rfl hs S.clos S.kind (names_ok S.names) (thn (hi pins s σ H _ I h) fun v s1 h1=>thn h1 fun itv s2 h2=>?_)
 obtain ⟨it,fp,tn,J,H2,e,I2,T,st2,f2,hL⟩:=h2
 subst e
 refine comp_block (RR:=fun acc C=>compPost (model X.prog X.w) X.A X.xe none (EP X pins σ Q) acc C) hcalm S I2 T st2 f2 body hL fun D C Hf s' q I' fC hn=>?_
 obtain ⟨m,hn⟩:=hn
 obtain ⟨f0,f1,_,f3,f4,f5⟩:=fC
 refine ⟨m,hn,fun h' hs'=>⟨.ref D,Hf,I'.turned (t':=s'.toks) (fun b o hb e=>(hs'.2 b hb).trans e) f0 f1 f3 f4 f5,rfl,q⟩⟩
noncomputable def tCompS (i:Nat) (wi:TI) (g:TG) (tt:TT) (te:TE) (nt:Nat) (js:List Nat):TS:=fun D σ H=>tComp wi g tt te nt js σ H fun v H'=>D.nx (σ.set i (some v)) H'
theorem ps_comp {i:Nat} {y:Str} (hcalm:X.calm=true) (hN:X.N.Nodup) (hy:X.N[i]?=some y) (hl:X.env.scope.names.lookup y=some .local) (S:CompSc X Nc nt js scope cl) (hi:PI X target iter wi)
  (body:∀ C s3 H3 fp pins,PG (X.comp Nc scope cl C s3 H3 fp pins) target g∧PTs (X.comp Nc scope cl C s3 H3 fp pins) ifs tt∧PE (X.comp Nc scope cl C s3 H3 fp pins) elt te)
  (hsw:swapsWith (.ListComp elt [⟨target,iter,ifs,0⟩] scope pos) (some (.Name y py)) spos.line X.env=pure true:=by rfl)
  (hs:∀ x,foldedSetIterable iter X.env x=pure x:=by intro _; rfl):PS X (.Assign [.Name y py] (.ListComp elt [⟨target,iter,ifs,0⟩] scope pos) spos) (tCompS i wi g tt te nt js):=by
 intro pins s σ H D I h
 rw [exec_Assign_Name_used y py _ spos hsw]; refine wpAny_bind (wpAny_standAt (wpAny_bind ?_))
 show wpAny _ X.A (do let _ ← comprehension (.ListComp elt [⟨target,iter,ifs,0⟩] scope pos) scope X.env _ (newList []) false (eval iter X.env) (some (assign (.Name y py) X.env))) _ _ s
 refine wpAny_bind (wpAny_mono (wpAny_comprehension_free (use:=some (assign (.Name y py) X.env)) (Q:=fun _ s'=>SP X pins D .next s') rfl hs S.clos S.kind (names_ok S.names)
  (thn (hi pins s σ H _ I h) fun v s1 h1=>thn h1 fun itv s2 h2=>?_)) (fun _ s' hq=>wpAny_pure (wpAny_pure hq)) fun _ _ e=>e)
 obtain ⟨it,fp,tn,J,H2,e,I2,T,st2,f2,hL⟩:=h2
 subst e
 refine comp_block (RR:=fun acc C=>compPost (model X.prog X.w) X.A X.xe (some (assign (.Name y py) X.env)) (fun _ s'=>SP X pins D .next s') acc C) hcalm S I2 T st2 f2 body hL fun Da C Hf s' q I' fC hn=>?_
 obtain ⟨m,hn⟩:=hn
 obtain ⟨f0,f1,f2',f3,f4,f5⟩:=fC
 show wpAny _ X.A (assign (.Name y py) X.env (.ref Da)) _ _ _
 refine wpAny_assign_Name (store_ok2 I' hN hy (.inl hl) (v:=.ref Da) rfl (fun s'' I'' ⟨a,hsb,ha⟩=>?_) (.inr hl))
 have hCa:C≠a:=by
  rcases ha with ha | ha
  ·rw [ha]; exact f1
  ·exact fun z=>f4 _ _ ha z.symm
 refine ⟨m,hn.sameBut hsb hCa,fun h' hs'=>⟨_,Hf,I''.turned (t':=s''.toks) (fun b o hb e=>(hs'.2 b hb).trans e) f0 f1 f3 f4 f5,q⟩⟩
end
theorem comp_list {K:PySem.W.Frag} {a D:Addr} {xs:List V} {g:TG} {tt:TT} {te:TE} {σc:St} {H:Hp} {F:Hp→Prop} (Pv:Nat→St→List V→Hp→Prop) (h0:Pv 0 σc [] (upd H D (.lst [])))
  (hl:∀ i σ ys H,i≤xs.length→Pv i σ ys H→SqL K H a xs∧H D=some (.lst ys)∧ys.length≤i) (hz:xs.length≤sizeLine)
  (hs:∀ i x σ ys H,xs[i]?=some x→Pv i σ ys H→g x σ H fun σ2 H2=>tt σ2 H2 fun b H3=>if b=true then te σ2 H3 fun y H4=>H4 D=some (.lst ys)∧Pv (i + 1) σ2 (ys ++ [y]) (upd H4 D (.lst (ys ++ [y]))) else Pv (i + 1) σ2 ys H3)
  (hd:∀ σ ys H,Pv xs.length σ ys H→F H):tLoopC g tt te σc D (Itl K a) H F:=by
 refine ⟨fun i m σ ys H=>m=xs.length - i∧i≤xs.length∧Pv i σ ys H,⟨xs.length,by simp,Nat.zero_le _,h0⟩,?_⟩
 rintro i m σ ys H ⟨rfl,hi,p⟩
 obtain ⟨q,hD,hy⟩:=hl i σ ys H hi p
 refine ⟨hD,?_⟩
 by_cases hlt:i < xs.length
 ·refine .inr ⟨⟨xs,xs[i],q,by simp [hlt]⟩,by lia,Pv (i + 1),fun σ' ys' H' p'=>⟨xs.length - (i + 1),by lia,rfl,hlt,p'⟩,fun x H' y=>?_⟩
  obtain ⟨e,y⟩:=y
  subst e
  exact hs i x σ ys _ (y xs q) p
 ·have e:i=xs.length:=by lia
  subst e
  exact .inl ⟨⟨xs,q,Nat.le_refl _⟩,hd σ ys H p⟩
theorem comp_range {D:Addr} {lo:Int} {n:Nat} {g:TG} {tt:TT} {te:TE} {σc:St} {H:Hp} {F:Hp→Prop} (Pv:Nat→St→List V→Hp→Prop) (h0:Pv 0 σc [] (upd H D (.lst [])))
  (hl:∀ i σ ys H,i≤n→Pv i σ ys H→H D=some (.lst ys)∧ys.length≤i) (hz:n≤sizeLine)
  (hs:∀ i σ ys H,i < n→Pv i σ ys H→g (.int (lo + i)) σ H fun σ2 H2=>tt σ2 H2 fun b H3=>if b=true then te σ2 H3 fun y H4=>H4 D=some (.lst ys)∧Pv (i + 1) σ2 (ys ++ [y]) (upd H4 D (.lst (ys ++ [y]))) else Pv (i + 1) σ2 ys H3)
  (hd:∀ σ ys H,Pv n σ ys H→F H):tLoopC g tt te σc D (Itr lo n) H F:=by
 refine ⟨fun i m σ ys H=>m=n - i∧i≤n∧Pv i σ ys H,⟨n,by simp,Nat.zero_le _,h0⟩,?_⟩
 rintro i m σ ys H ⟨rfl,hi,p⟩
 obtain ⟨hD,hy⟩:=hl i σ ys H hi p
 refine ⟨hD,?_⟩
 by_cases hlt:i < n
 ·refine .inr ⟨hlt,by lia,Pv (i + 1),fun σ' ys' H' p'=>⟨n - (i + 1),by lia,rfl,hlt,p'⟩,fun x H' y=>?_⟩
  obtain ⟨e,y⟩:=y
  subst e y
  exact hs i σ ys _ hlt p
 ·have e:i=n:=by lia
  subst e
  exact .inl ⟨Nat.le_refl _,hd σ ys H p⟩
end L2
set_option Elab.async false
set_option linter.all false
set_option maxRecDepth 100000
set_option maxHeartbeats 4100000
namespace L2
open PySem PySem.Spec PyProof.Rows
theorem perm_erase {α:Type}:∀ (l:List α) (k:Nat) (h:k < l.length),(l[k] :: l.eraseIdx k).Perm l
 | x :: l,0,_=>List.Perm.refl _
 | x :: l,k + 1,h=>by
  have ih:=perm_erase l k (by simpa using h)
  exact (List.Perm.swap _ _ _).trans (List.Perm.cons x ih)
section
variable {prog:Program} {w:World} {A:Around} {E:Value→Shared→Prop} {s:Shared}
theorem wpAny_draw {M:Model} {src:Source} {n:Nat} {Q:Nat→Shared→Prop} (hn:n≠0) (h:∀ k d,k < n→Q k { s with drawn:=d }):wpAny M A (choose src n) Q E s :=
 fun Γ p _=>⟨hn,h _ _ (Nat.mod_lt _ (Nat.pos_of_ne_zero hn))⟩
theorem wpAny_drawOrder {M:Model} {α:Type}:∀ (n:Nat) (xs:List α) (s:Shared) {Q:List α→Shared→Prop},xs.length≤n→(∀ ys d,ys.Perm xs→Q ys { s with drawn:=d })→wpAny M A (drawOrder n xs) Q E s
 | 0,xs,s,Q,hl,h=>by
  have e:xs=[]:=List.length_eq_zero_iff.mp (Nat.le_zero.mp hl)
  subst e
  exact wpAny_pure (h [] s.drawn (List.Perm.refl _))
 | n + 1,[],s,Q,hl,h=>wpAny_pure (h [] s.drawn (List.Perm.refl _))
 | n + 1,x :: xs,s,Q,hl,h=>by
  show wpAny M A (choose .order (x :: xs).length >>= _) Q E s
  refine wpAny_bind (wpAny_draw (by simp) fun k d hk=>?_)
  have hk':k < (x :: xs).length:=hk
  show wpAny M A (match (x :: xs)[k]? with | some y=>(do return y :: (← drawOrder n ((x :: xs).eraseIdx k))) | none=>unsupported "internal:drawOrder") Q E _
  rw [List.getElem?_eq_getElem hk']
  dsimp only
  refine wpAny_bind (wpAny_drawOrder n _ _ ?_ fun ys d' hp=>?_)
  ·rw [List.length_eraseIdx_of_lt hk']
   simp only [List.length_cons] at hl ⊢
   lia
  ·refine wpAny_pure (h _ d' ?_)
   exact (List.Perm.cons _ hp).trans (perm_erase (x :: xs) k hk')
end
theorem sl_set_iter:Slot "set" "__iter__" "set.__iter__":=PySem.F.slot_set_iter
theorem en_set_iter:entryFor table "set.__iter__"=some Builtin.«frozenset.__iter__»:=entryFor_alias (id':="frozenset.__iter__") (by kernel_rfl) rfl (by decide +kernel) (by kernel_rfl)
theorem sl_sit_next:Slot "set_iterator" "__next__" "set_iterator.__next__":=.of (owner:="set_iterator") (n:="__next__") (by rw [typeLookup_type,builtinLookup_eq_fast]; kernel_rfl) (by decide +kernel) (by decide +kernel) (by decide +kernel) (by first | exact .inl (by decide +kernel) | exact .inr (by decide +kernel)) (by rw [isSubtype_type]; kernel_rfl)
theorem en_sit_next:entryFor table "set_iterator.__next__"=some Builtin.«set_iterator.__next__»:=entryFor_of_tree (by kernel_rfl)
theorem ar_sit_next (a:Value):argsOk "set_iterator.__next__" ⟨[a],[]⟩:=by unfold argsOk; kernel_rfl
end L2
set_option Elab.async false
set_option linter.all false
set_option maxRecDepth 100000
set_option maxHeartbeats 4100000
namespace L2
open PySem PySem.Spec PyProof.Rows
structure SetAt (h:Heap) (a:Addr) (es:Array (Int×Value)) (ep:Nat) (t:SetTable):Prop where
 ob:∃ o,h.get? a=some o∧o.ExactSet∧o.data=.set es ep t
 fit:t.fits es.size=true
noncomputable def SitAt (h:Heap) (it:Addr) (fs:Array Value):Prop:=∃ o,h.get? it=some o∧o.cls=.type "set_iterator"∧o.data=.fields fs
theorem SitAt.typeIs {s:Shared} {it:Addr} {fs:Array Value} (x:SitAt s.heap it fs):s.TypeIs (.ref it) "set_iterator":=let ⟨o,h1,h2,_⟩:=x; ⟨o,h1,h2⟩
theorem SitAt.upd {h:Heap} {it:Addr} {fs:Array Value} (x:SitAt h it fs) (i:Nat) (v:Value):SitAt (h.update it (Obj.mapFields (·.setIfInBounds i v))) it (fs.setIfInBounds i v):=by
 obtain ⟨o,h1,h2,h3⟩:=x
 exact ⟨_,Heap.get?_update_self _ h1 (Obj.isFreed_of_fields (Obj.data_mapFields h3 _)),(Obj.cls_mapFields ..).trans h2,Obj.data_mapFields h3 _⟩
section
variable {prog:Program} {w:World} {A:Around} {E:Value→Shared→Prop} {s:Shared}
theorem ret_ok {v:Value} {Q:Option Value→Shared→Prop} (q:Q (some v) s):wpAny (model prog w) A.in1 (ret v) (fun fin s'=>∃ r,fin=Fin.done (Flow.ret r)∧wpAny (model prog w) A (pure (some r)) Q E s') (fun e s'=>wpAny (model prog w) A (do
  let b ← isInstance e (Value.type "StopIteration")
  if b=true then pure none else throw e) Q E s') s:=wpAny_pure ⟨v,rfl,wpAny_pure q⟩
theorem stop_ok {Q:Option Value→Shared→Prop} (hh:A.handled=none) (q:∀ h':Heap,(∀ b o,s.heap.get? b=some o→h'.get? b=some o)→Q none { s with heap:=h' }) :
  wpAny (model prog w) A.in1 (do let x ← newExc (Value.type "StopIteration") []; raiseNew x:Sem Fin) (fun fin s'=>∃ r,fin=Fin.done (Flow.ret r)∧wpAny (model prog w) A (pure (some r)) Q E s') (fun e s'=>wpAny (model prog w) A (do
  let b ← isInstance e (Value.type "StopIteration")
  if b=true then pure none else throw e) Q E s') s:=by
 refine wpAny_bind ?_
 unfold newExc newTuple
 refine wpAny_bind (wpAny_newObj_type ?_ (by size_fits))
 refine wpAny_bind (m:=firstArgMember _ _) (wpAny_of_eq (a:=Value.none) (by first | rfl | (simp only [firstArgMember]; rfl)) ?_)
 refine wpAny_newObj_type ?_ (by size_fits)
 refine wpAny_raiseNew_none hh ?_
 refine wpAny_bind (wpAny_isInstance (T:="StopIteration") (b:=true) ⟨_,Heap.get?_push_size _ rfl,rfl⟩ isSubtype_stop ?_)
 exact wpAny_pure (q _ fun b o e=>Heap.get?_push_of_some _ (Heap.get?_push_of_some _ e))
theorem wpAny_byText {Q:Bool→Shared→Prop} (h:Q (w.params.followText "set-order") s):wpAny (model prog w) A setsByText Q E s:=by
 unfold setsByText
 exact wpAny_bind (wpAny_askSetting (wpAny_pure h))
theorem sit_int {it a:Addr} {sl k n ep:Nat} {es:Array (Int×Value)} {t:SetTable} {Q:Option Value→Shared→Prop} (hh:A.handled=none)
  (x:SitAt s.heap it #[rawInt sl,rawInt k,.ref a,rawInt n,rawInt ep]) (y:SetAt s.heap a es ep t) (hn:es.size=n) (r:Option (Value×Nat))
  (hr:∀ R:Option (Value×Nat)→Shared→Prop,∀ E',R r s→wpAny (model prog w) A.in1 (setNext a sl k ep) R E' s)
  (h:match r with
   | some (v,nx)=>∀ h',SitAt h' it #[rawInt nx,rawInt ((k:Int) + 1),.ref a,rawInt n,rawInt ep]→(∀ b o,b≠it→s.heap.get? b=some o→h'.get? b=some o)→Q (some v) { s with heap:=h' }
   | none=>∀ h',(∀ b o,b≠it→s.heap.get? b=some o→h'.get? b=some o)→Q none { s with heap:=h' }) :
  wpAny (model prog w) A (pyNext (.ref it)) Q E s:=by
 obtain ⟨o,h1,h2,h3⟩:=id x
 obtain ⟨⟨os,g1,g2,g3⟩,hf⟩:=y
 unfold pyNext
 refine wpAny_bind (wpAny_attempt (wpAny_callSpecial?_slot (name:=Str.ofString "__next__") x.typeIs sl_sit_next (wpAny_call_entry sl_sit_next x.typeIs en_sit_next ?_ (ar_sit_next _))))
 unfold Builtin.«set_iterator.__next__» slotArgs
 refine wpAny_bind (wpAny_pure ?_)
 refine wpAny_bind (wpAny_fieldsOf h1 h3 ?_)
 dsimp only [rawInt]
 refine wpAny_bind (wpAny_setEntries_of g1 g3 hf ?_)
 rw [if_neg (by simp [hn])]
 refine wpAny_bind (hr _ _ ?_)
 cases r with
 | some p =>
  obtain ⟨v,nx⟩:=p
  dsimp only at h ⊢
  refine wpAny_bind (wpAny_setField h1 h3 (by simp) ?_)
  have x1:=x.upd 0 (.int nx 0)
  obtain ⟨o1,k1,k2,k3⟩:=id x1
  refine wpAny_bind (wpAny_setField (s:={ s with heap:=_ }) k1 k3 (by simp) ?_)
  have x2:=x1.upd 1 (.int ((k:Int) + 1) 0)
  refine ret_ok (h _ ?_ fun b o hb e=>?_)
  ·simpa [rawInt] using x2
  ·exact ((Heap.SameBut.update _ it _).2 b hb).trans (((Heap.SameBut.update _ it _).2 b hb).trans e)
 | none =>
  dsimp only at h ⊢
  refine wpAny_bind (wpAny_setField h1 h3 (by simp) ?_)
  refine stop_ok hh fun h' hk=>?_
  exact h h' fun b o hb e=>hk b o (((Heap.SameBut.update _ it _).2 b hb).trans e)
theorem sit_ref {it a tp:Addr} {k n ep tn:Nat} {places:Array Value} {ot:Obj} {es:Array (Int×Value)} {t:SetTable} {Q:Option Value→Shared→Prop} (hh:A.handled=none)
  (x:SitAt s.heap it #[.ref tp,rawInt k,.ref a,rawInt n,rawInt ep]) (y:SetAt s.heap a es ep t) (hn:es.size=n) (ht:s.heap.get? tp=some ot) (hd:ot.data=.seq places tn) (r:Option Nat)
  (hp:places[k]?=r.map fun (j:Nat)=>rawInt (j:Int)) (hj:∀ j,r=some j→∃ e,es[j]?=some e)
  (h:match r with
   | some j=>∀ e h',es[j]?=some e→SitAt h' it #[.ref tp,rawInt ((k:Int) + 1),.ref a,rawInt n,rawInt ep]→(∀ b o,b≠it→s.heap.get? b=some o→h'.get? b=some o)→Q (some e.2) { s with heap:=h' }
   | none=>∀ h',(∀ b o,b≠it→s.heap.get? b=some o→h'.get? b=some o)→Q none { s with heap:=h' }) :
  wpAny (model prog w) A (pyNext (.ref it)) Q E s:=by
 obtain ⟨o,h1,h2,h3⟩:=id x
 obtain ⟨⟨os,g1,g2,g3⟩,hf⟩:=y
 unfold pyNext
 refine wpAny_bind (wpAny_attempt (wpAny_callSpecial?_slot (name:=Str.ofString "__next__") x.typeIs sl_sit_next (wpAny_call_entry sl_sit_next x.typeIs en_sit_next ?_ (ar_sit_next _))))
 unfold Builtin.«set_iterator.__next__» slotArgs
 refine wpAny_bind (wpAny_pure ?_)
 refine wpAny_bind (wpAny_fieldsOf h1 h3 ?_)
 dsimp only [rawInt]
 refine wpAny_bind (wpAny_setEntries_of g1 g3 hf ?_)
 rw [if_neg (by simp [hn])]
 refine wpAny_bind (wpAny_seqItems ht hd ?_)
 dsimp only
 rw [show places[(k:Int).toNat]?=_ from hp]
 cases r with
 | some j =>
  obtain ⟨e,he⟩:=hj j rfl
  dsimp only [Option.map,rawInt] at h ⊢
  refine wpAny_bind ?_
  unfold setNextDrawn
  refine wpAny_bind (wpAny_setState_of g1 g3 hf ?_)
  dsimp only
  rw [if_neg (by simp),show es[(j:Int).toNat]?=some e from he]
  refine wpAny_pure ?_
  refine wpAny_bind (wpAny_setField h1 h3 (by simp) ?_)
  have x2:=x.upd 1 (.int ((k:Int) + 1) 0)
  refine ret_ok (h e _ he ?_ fun b o hb e=>?_)
  ·simpa [rawInt] using x2
  ·exact ((Heap.SameBut.update _ it _).2 b hb).trans e
 | none =>
  dsimp only [Option.map] at h ⊢
  refine wpAny_bind (wpAny_setField h1 h3 (by simp) ?_)
  have x1:=x.upd 0 (.int 0 0)
  obtain ⟨o1,k1,k2,k3⟩:=id x1
  refine wpAny_bind (wpAny_setField (s:={ s with heap:=_ }) k1 k3 (by simp) ?_)
  refine stop_ok hh fun h' hk=>?_
  exact h h' fun b o hb e=>hk b o (((Heap.SameBut.update _ it _).2 b hb).trans (((Heap.SameBut.update _ it _).2 b hb).trans e))
theorem pick_go {α:Type} (next:Nat→Nat):∀ (fuel k:Nat) (left:List α) (out:Array α),left.length≤fuel→(pickOrder.go next fuel k left out).toList.Perm (out.toList ++ left)
 | 0,k,left,out,h=>by
  have e:left=[]:=List.length_eq_zero_iff.mp (Nat.le_zero.mp h)
  subst e
  rw [List.append_nil]
  exact List.Perm.refl _
 | fuel + 1,k,left,out,h=>by
  unfold pickOrder.go
  cases left with
  | nil=>simp
  | cons x l =>
   have hk:next k % (x :: l).length < (x :: l).length:=Nat.mod_lt _ (by simp)
   rw [List.getElem?_eq_getElem hk]
   dsimp only
   refine (pick_go next fuel (k + 1) _ _ ?_).trans ?_
   ·rw [List.length_eraseIdx_of_lt hk]
    simp only [List.length_cons] at h ⊢
    lia
   ·rw [Array.toList_push,List.append_assoc]
    exact List.Perm.append_left _ (perm_erase (x :: l) _ hk)
theorem pick_perm {α:Type} (next:Nat→Nat) (xs:Array α):(pickOrder next xs).toList.Perm xs.toList:=by
 have h:=pick_go next xs.size 0 xs.toList #[] (by simp)
 show (pickOrder.go next xs.size 0 xs.toList #[]).toList.Perm xs.toList
 simpa using h
theorem next_text {a:Addr} {es:Array (Int×Value)} {sl k ep:Nat} {t:SetTable} (y:SetAt s.heap a es ep t) (hb:w.params.followText "set-order"=true) {R:Option (Value×Nat)→Shared→Prop} {E':Value→Shared→Prop}
  (h:R (((pickOrder (w.params.setOrder a ep) es)[k]?).map fun e=>(e.2,sl)) s):wpAny (model prog w) A (setNext a sl k ep) R E' s:=by
 obtain ⟨⟨os,g1,g2,g3⟩,hf⟩:=y
 unfold setNext
 refine wpAny_bind (wpAny_setState_of g1 g3 hf ?_)
 dsimp only
 refine wpAny_bind (wpAny_byText ?_)
 rw [hb,if_pos rfl,if_neg (by simp)]
 refine wpAny_bind ?_
 unfold setWalk
 refine wpAny_bind (wpAny_setState_of g1 g3 hf ?_)
 dsimp only
 refine wpAny_bind (wpAny_byText ?_)
 rw [hb,if_pos rfl]
 refine wpAny_bind (wpAny_askSetting (wpAny_pure (wpAny_pure h)))
theorem next_led {a:Addr} {es:Array (Int×Value)} {sl k ep:Nat} {t:SetTable} (y:SetAt s.heap a es ep t) (hb:w.params.followText "set-order"=false) (hl:t.led=true) (h1:es.size≤1) {R:Option (Value×Nat)→Shared→Prop} {E':Value→Shared→Prop}
  (h:R (match es[SetTable.below t.place sl]?,t.place[SetTable.below t.place sl]? with | some (_,x),some j=>some (x,j + 1) | _,_=>none) s):wpAny (model prog w) A (setNext a sl k ep) R E' s:=by
 obtain ⟨⟨os,g1,g2,g3⟩,hf⟩:=y
 unfold setNext
 refine wpAny_bind (wpAny_setState_of g1 g3 hf ?_)
 dsimp only
 refine wpAny_bind (wpAny_byText ?_)
 rw [hb,if_neg Bool.false_ne_true]
 split
 ·rename_i hd
  have hd':(!t.plain && decide (es.size > 1))=true:=hd
  have:es.size > 1:=by simp at hd'; exact hd'.2
  lia
 refine wpAny_bind ?_
 show wpAny _ _ (if (!t.led && !es.isEmpty)=true then unsupported "set:maker-not-led" else pure ()) _ _ _
 rw [hl,if_neg (by simp)]
 exact wpAny_pure (wpAny_pure h)
end
end L2
set_option Elab.async false
set_option linter.all false
set_option maxRecDepth 100000
set_option maxHeartbeats 4100000
namespace L2
open PySem PySem.Spec PyProof.Rows
theorem SetAt.keep {h h':Heap} {a:Addr} {es:Array (Int×Value)} {ep:Nat} {t:SetTable} (y:SetAt h a es ep t) (k:∀ o,h.get? a=some o→h'.get? a=some o):SetAt h' a es ep t:=by
 obtain ⟨⟨o,h1,h2,h3⟩,hf⟩:=y
 exact ⟨⟨o,k o h1,h2,h3⟩,hf⟩
theorem SitAt.keep {h h':Heap} {it:Addr} {fs:Array Value} (x:SitAt h it fs) (k:∀ o,h.get? it=some o→h'.get? it=some o):SitAt h' it fs:=by
 obtain ⟨o,h1,h2,h3⟩:=x
 exact ⟨o,k o h1,h2,h3⟩
theorem sl_sit_iter:Slot "set_iterator" "__iter__" "set_iterator.__iter__":=.of (owner:="set_iterator") (n:="__iter__") (by rw [typeLookup_type,builtinLookup_eq_fast]; kernel_rfl) (by decide +kernel) (by decide +kernel) (by decide +kernel) (by first | exact .inl (by decide +kernel) | exact .inr (by decide +kernel)) (by rw [isSubtype_type]; kernel_rfl)
theorem en_sit_iter:entryFor table "set_iterator.__iter__"=some Builtin.«dict_keyiterator.__iter__»:=entryFor_alias (id':="dict_keyiterator.__iter__") (by kernel_rfl) rfl (by decide +kernel) (by kernel_rfl)
theorem ar_sit_iter (a:Value):argsOk "set_iterator.__iter__" ⟨[a],[]⟩:=by unfold argsOk; kernel_rfl
theorem ar_set_iter (a:Value):argsOk "set.__iter__" ⟨[a],[]⟩:=by unfold argsOk; kernel_rfl
section
variable {prog:Program} {w:World} {A:Around} {E:Value→Shared→Prop} {s:Shared}
theorem sit_self {it:Addr} {fs:Array Value} {Q:Value→Shared→Prop} (x:SitAt s.heap it fs) (q:Q (.ref it) s):wpAny (model prog w) A (pyIter (.ref it)) Q E s:=by
 refine wpAny_pyIter_slot x.typeIs sl_sit_iter (wpAny_call_entry sl_sit_iter x.typeIs en_sit_iter ?_ (ar_sit_iter _))
 show wpAny _ _ (ret (.ref it)) _ _ s
 exact wpAny_pure ⟨_,rfl,"set_iterator",_,x.typeIs,sl_sit_next.lookup,q⟩
theorem walk_text {it a:Addr} {es:Array (Int×Value)} {ep:Nat} {t:SetTable} (hne:a≠it) (hh:A.handled=none) (hb:w.params.followText "set-order"=true) :
  Walks prog w A it [it,a] [it] es.size (fun i v=>∃ e,(pickOrder (w.params.setOrder a ep) es).toList[i]?=some e∧v=e.2) (fun i h=>SitAt h it #[rawInt 0,rawInt i,.ref a,rawInt es.size,rawInt ep]∧SetAt h a es ep t) where
 sub:=fun b hb=>by simp at hb; simp [hb]
 frame:=fun i h h' st k=>⟨st.1.keep fun o e=>k it (by simp) o e,st.2.keep fun o e=>k a (by simp) o e⟩
 item:=fun i s Q E hi st hQ=>by
  have hp:=pick_perm (w.params.setOrder a ep) es
  have hl:i < (pickOrder (w.params.setOrder a ep) es).toList.length:=by rw [hp.length_eq]; simpa using hi
  have hg:(pickOrder (w.params.setOrder a ep) es)[i]?=some (pickOrder (w.params.setOrder a ep) es).toList[i]:=by rw [← Array.getElem?_toList,List.getElem?_eq_getElem hl]
  refine sit_int (sl:=0) (k:=i) hh st.1 st.2 rfl (some ((pickOrder (w.params.setOrder a ep) es).toList[i].2,0)) (fun R E' hR=>next_text st.2 hb (by rw [hg]; exact hR)) ?_
  intro h' x' k
  exact hQ _ h' s.toks ⟨_,List.getElem?_eq_getElem hl,rfl⟩ ⟨by simpa using x',st.2.keep fun o e=>k a o hne e⟩ fun b o hb e=>k b o (fun z=>hb (by simp [z])) e
 done:=fun s Q E st hQ=>by
  have hp:=pick_perm (w.params.setOrder a ep) es
  have hg:(pickOrder (w.params.setOrder a ep) es)[es.size]?=none:=by
   rw [← Array.getElem?_toList]
   exact List.getElem?_eq_none (by rw [hp.length_eq]; simp)
  refine sit_int (sl:=0) (k:=es.size) hh st.1 st.2 rfl none (fun R E' hR=>next_text st.2 hb (by rw [hg]; exact hR)) ?_
  exact fun h' k=>hQ h' s.toks fun b o hb e=>k b o (fun z=>hb (by simp [z])) e
 self:=fun i s Q E st q=>sit_self st.1 q
theorem walk_drawn {it a tp:Addr} {es:Array (Int×Value)} {ep:Nat} {t:SetTable} {js:List Nat} (hne:a≠it) (hnt:tp≠it) (hh:A.handled=none) (hjs:js.Perm (List.range es.size)) :
  Walks prog w A it [it,a,tp] [it] es.size (fun i v=>Ex_2_3 (fun j e=>js[i]?=some j) (fun j e=>es[j]?=some e) (fun j e=>v=e.2))
   (fun i h=>SitAt h it #[.ref tp,rawInt i,.ref a,rawInt es.size,rawInt ep]∧SetAt h a es ep t∧Ex_2_2 (fun o n=>h.get? tp=some o) (fun o n=>o.data=.seq (js.map fun (j:Nat)=>rawInt (j:Int)).toArray n)) where
 sub:=fun b hb=>by simp at hb; simp [hb]
 frame:=fun i h h' st k=>⟨st.1.keep fun o e=>k it (by simp) o e,st.2.1.keep fun o e=>k a (by simp) o e,let ⟨o,n,e,d⟩:=st.2.2; ⟨o,n,k tp (by simp) o e,d⟩⟩
 item:=fun i s Q E hi st hQ=>by
  obtain ⟨st1,st2,o,n,e1,e2⟩:=st
  have hl:i < js.length:=by rw [hjs.length_eq]; simpa using hi
  have hj:js[i] < es.size:=by
   have:=hjs.mem_iff.mp (List.getElem_mem hl)
   simpa using this
  refine sit_ref (k:=i) hh st1 st2 rfl e1 e2 (some js[i]) ?_ (fun j ej=>?_) ?_
  ·rw [List.getElem?_toArray,List.getElem?_map,List.getElem?_eq_getElem hl]
  ·cases ej
   exact ⟨_,Array.getElem?_eq_getElem hj⟩
  ·intro e h' he x' k
   exact hQ _ h' s.toks ⟨_,e,List.getElem?_eq_getElem hl,he,rfl⟩ ⟨by simpa using x',st2.keep fun o e=>k a o hne e,o,n,k tp o hnt e1,e2⟩ fun b o hb e=>k b o (fun z=>hb (by simp [z])) e
 done:=fun s Q E st hQ=>by
  obtain ⟨st1,st2,o,n,e1,e2⟩:=st
  refine sit_ref (k:=es.size) hh st1 st2 rfl e1 e2 none ?_ (fun j ej=>by cases ej) ?_
  ·rw [List.getElem?_toArray]
   exact List.getElem?_eq_none (by rw [List.length_map,hjs.length_eq]; simp)
  ·exact fun h' k=>hQ h' s.toks fun b o hb e=>k b o (fun z=>hb (by simp [z])) e
 self:=fun i s Q E st q=>sit_self st.1 q
theorem arr_one {α:Type}:∀ {xs:Array α},xs.size=1→∃ x,xs=#[x]
 | ⟨[x]⟩,_=>⟨x,rfl⟩
 | ⟨[]⟩,h=>absurd h (by simp)
 | ⟨_ :: _ :: _⟩,h=>absurd h (by simp)
noncomputable def ledSlot (t:SetTable) (i:Nat):Nat:=if i=0 then 0 else t.place.getD 0 0 + 1
theorem below_one {j x:Nat}:SetTable.below #[j] x=if j < x then 1 else 0:=by
 unfold SetTable.below
 show SetTable.below.go #[j] x 1 0 1=_
 unfold SetTable.below.go
 simp only [Nat.lt_one_iff,↓reduceIte]
 by_cases h:j < x
 ·simp [h,SetTable.below.go]
 ·simp [h,SetTable.below.go]
theorem walk_led {it a:Addr} {es:Array (Int×Value)} {ep:Nat} {t:SetTable} (hne:a≠it) (hh:A.handled=none) (hb:w.params.followText "set-order"=false) (hled:t.led=true) (h1:es.size≤1) :
  Walks prog w A it [it,a] [it] es.size (fun i v=>∃ e,es[i]?=some e∧v=e.2) (fun i h=>SitAt h it #[rawInt (ledSlot t i),rawInt i,.ref a,rawInt es.size,rawInt ep]∧SetAt h a es ep t) where
 sub:=fun b hb=>by simp at hb; simp [hb]
 frame:=fun i h h' st k=>⟨st.1.keep fun o e=>k it (by simp) o e,st.2.keep fun o e=>k a (by simp) o e⟩
 item:=fun i s Q E hi st hQ=>by
  have hs:es.size=1:=by lia
  have hi0:i=0:=by lia
  subst hi0
  obtain ⟨e,he⟩:∃ e,es=#[e]:=arr_one hs
  have hf:=st.2.fit
  have hp:t.place.size=1:=by
   simp only [SetTable.fits,Bool.and_eq_true,beq_iff_eq] at hf
   rw [hf.1,hs]
  obtain ⟨j,hj⟩:∃ j,t.place=#[j]:=arr_one hp
  refine sit_int (sl:=ledSlot t 0) (k:=0) hh st.1 st.2 rfl (some (e.2,j + 1)) (fun R E' hR=>next_led st.2 hb hled h1 ?_) ?_
  ·have e0:SetTable.below t.place (ledSlot t 0)=0:=by rw [hj,below_one]; simp [ledSlot]
   rw [e0,he,hj]
   exact hR
  ·intro h' x' k
   refine hQ _ h' s.toks ⟨e,by rw [he]; rfl,rfl⟩ ⟨?_,st.2.keep fun o e=>k a o hne e⟩ fun b o hb e=>k b o (fun z=>hb (by simp [z])) e
   have e1:ledSlot t (0 + 1)=j + 1:=by simp [ledSlot,hj]
   rw [e1]
   simpa using x'
 done:=fun s Q E st hQ=>by
  refine sit_int (sl:=ledSlot t es.size) (k:=es.size) hh st.1 st.2 rfl none (fun R E' hR=>next_led st.2 hb hled h1 ?_) ?_
  ·have:es[SetTable.below t.place (ledSlot t es.size)]?=none:=by
    have hf:=st.2.fit
    have hp:t.place.size=es.size:=by
     simp only [SetTable.fits,Bool.and_eq_true,beq_iff_eq] at hf
     exact hf.1
    rcases Nat.lt_or_ge es.size 1 with hz | hz
    ·have z:es.size=0:=by lia
     exact Array.getElem?_eq_none (by lia)
    ·have hs:es.size=1:=by lia
     obtain ⟨j,hj⟩:∃ j,t.place=#[j]:=arr_one (hp.trans hs)
     have e0:SetTable.below t.place (ledSlot t es.size)=1:=by rw [hj,below_one]; simp [ledSlot,hj,hs]
     rw [e0]
     exact Array.getElem?_eq_none (by lia)
   rw [this]
   exact hR
  ·exact fun h' k=>hQ h' s.toks fun b o hb e=>k b o (fun z=>hb (by simp [z])) e
 self:=fun i s Q E st q=>sit_self st.1 q
end
end L2
set_option Elab.async false
set_option linter.all false
set_option maxRecDepth 100000
set_option maxHeartbeats 4100000
namespace L2
open PySem PySem.Spec PyProof.Rows
theorem walks_mono {prog:Program} {w:World} {A:Around} {I:Addr} {fp wr:List Addr} {n:Nat} {P P':Nat→Value→Prop} {St:Nat→Heap→Prop} (W:Walks prog w A I fp wr n P St) (h:∀ i v,P i v→P' i v):Walks prog w A I fp wr n P' St :=
 ⟨W.sub,W.frame,fun i s Q E hi st hQ=>W.item i s Q E hi st fun v h' tk hp=>hQ v h' tk (h i v hp),W.done,W.self⟩
section
variable {prog:Program} {w:World} {A:Around} {E:Value→Shared→Prop} {s:Shared}
noncomputable def nthV (es:Array (Int×Value)) (j:Nat):Value:=((es[j]?).map (·.2)).getD .none
theorem nthV_range (es:Array (Int×Value)):(List.range es.size).map (nthV es)=es.toList.map (·.2):=by
 refine List.ext_getElem? fun i=>?_
 rw [List.getElem?_map,List.getElem?_map]
 by_cases h:i < es.size
 ·rw [List.getElem?_eq_getElem (by simpa using h),Array.getElem?_toList,Array.getElem?_eq_getElem h]
  simp [nthV,h]
 ·rw [List.getElem?_eq_none (by simpa using h),List.getElem?_eq_none (by simpa using h)]
  rfl
structure SetWalk (prog:Program) (w:World) (s:Shared) (a:Addr) (es:Array (Int×Value)) (I:Addr) (h':Heap) (fp:List Addr) (vs:List Value) (St:Nat→Heap→Prop):Prop where
 old:∀ b o,s.heap.get? b=some o→h'.get? b=some o
 walks:∀ A':Around,A'.handled=none→Walks prog w A' I fp [I] es.size (fun i v=>vs[i]?=some v) St
 st:St 0 h'
 there:∀ b∈fp,b < h'.objs.size
 new:s.heap.objs.size≤I
 apart:∀ b∈fp,b=a∨s.heap.objs.size≤b
 perm:vs.Perm (es.toList.map (·.2))
theorem iter_tail {a:Addr} {first:Value} {es:Array (Int×Value)} {ep:Nat} {t:SetTable} {sx:Shared} (y:SetAt sx.heap a es ep t) {Q:Value→Shared→Prop}
  (h:SitAt (sx.heap.push { cls:=.type "set_iterator",data:=.fields #[first,rawInt 0,.ref a,rawInt es.size,rawInt ep] }) sx.heap.objs.size #[first,rawInt ((0:Nat):Int),.ref a,rawInt es.size,rawInt ep] →
   Q (.ref sx.heap.objs.size) { sx with heap:=sx.heap.push { cls:=.type "set_iterator",data:=.fields #[first,rawInt 0,.ref a,rawInt es.size,rawInt ep] } }) :
  wpAny (model prog w) A (do ret (← newFields "set_iterator" [first,rawInt 0,.ref a,rawInt es.size,rawInt (← setEpoch a)]):Sem Fin) (fun fin s'=>∃ v,fin=.done (.ret v)∧∃ T' r,s'.TypeIs v T'∧typeLookup (.type T') "__next__"=pure (some r)∧Q v s') E sx:=by
 obtain ⟨⟨o,g1,g2,g3⟩,hf⟩:=y
 refine wpAny_bind (wpAny_setEpoch_of g1 g3 hf ?_)
 refine wpAny_bind ?_
 simp only [newFields]
 refine wpAny_newObj_type ?_ (by size_fits)
 have x:SitAt (sx.heap.push { cls:=.type "set_iterator",data:=.fields #[first,rawInt 0,.ref a,rawInt es.size,rawInt ep] }) sx.heap.objs.size #[first,rawInt ((0:Nat):Int),.ref a,rawInt es.size,rawInt ep]:=⟨_,Heap.get?_push_size _ rfl,rfl,rfl⟩
 exact wpAny_pure ⟨_,rfl,"set_iterator",_,x.typeIs (s:={ sx with heap:=_ }),sl_sit_next.lookup,h x⟩
theorem pyIter_set {a:Addr} {es:Array (Int×Value)} {ep:Nat} {t:SetTable} (y:SetAt s.heap a es ep t) (hsz:es.size≤sizeLine) (hled:t.led=!(w.params.followText "set-order")) (hpl:es.size≤1∨t.plain=false) {Q:Value→Shared→Prop}
  (h:∀ (I:Addr) (h':Heap) (d:Drawn) (fp:List Addr) (vs:List Value) (St:Nat→Heap→Prop),SetWalk prog w s a es I h' fp vs St→Q (.ref I) { s with heap:=h',drawn:=d }):wpAny (model prog w) A (pyIter (.ref a)) Q E s:=by
 obtain ⟨⟨o,g1,g2,g3⟩,hf⟩:=id y
 have hT:s.TypeIs (.ref a) "set":=⟨o,g1,g2.1⟩
 refine wpAny_pyIter_slot hT sl_set_iter (wpAny_call_entry sl_set_iter hT en_set_iter ?_ (ar_set_iter _))
 unfold Builtin.«frozenset.__iter__» Builtin.Frozenset.slot0 slotArgs
 simp only [List.isEmpty_nil,Bool.not_true,Bool.false_eq_true,↓reduceIte,bind_assoc,List.length_nil,bne_self_eq_false]
 unfold Builtin.Frozenset.addrOf Builtin.Frozenset.sizeOf
 refine wpAny_bind (wpAny_pure ?_)
 try dsimp only
 refine wpAny_bind (wpAny_pure ?_)
 refine wpAny_bind (wpAny_bind (wpAny_setEntries_of g1 g3 hf (wpAny_pure ?_)))
 have ha:a < s.heap.objs.size:=Heap.lt_size g1
 have hD:∀ {R:Bool→Shared→Prop} {E':Value→Shared→Prop},R (!(w.params.followText "set-order") && (!t.plain && decide (es.size > 1))) s→wpAny (model prog w) A.in1 (setDrawn a) R E' s:=fun {R E'} hR=>by
  unfold setDrawn
  refine wpAny_bind (wpAny_setState_of g1 g3 hf ?_)
  dsimp only
  exact wpAny_bind (wpAny_byText (wpAny_pure hR))
 refine wpAny_bind (hD ?_)
 have keepP:∀ (x:Obj) b ob,s.heap.get? b=some ob→(s.heap.push x).get? b=some ob:=fun x b ob e=>Heap.get?_push_of_some _ e
 cases hbt:w.params.followText "set-order" with
 | true =>
  rw [hbt] at hled
  show wpAny _ _ (if false=true then _ else _) _ _ _
  rw [if_neg Bool.false_ne_true]
  refine wpAny_bind (wpAny_pure ?_)
  refine iter_tail y fun x=>?_
  have pp:=pick_perm (w.params.setOrder a ep) es
  refine h _ _ s.drawn [s.heap.objs.size,a] ((pickOrder (w.params.setOrder a ep) es).toList.map (·.2)) _ ⟨keepP _,fun A' hA=>walks_mono (walk_text (ep:=ep) (t:=t) (Nat.ne_of_lt ha) hA hbt) fun i v ⟨e,e1,e2⟩=>by rw [List.getElem?_map,e1,e2]; rfl,⟨x,y.keep fun o e=>keepP _ _ _ e⟩,fun b hb=>?_,Nat.le_refl _,fun b hb=>?_,pp.map _⟩
  ·rw [Heap.size_push]
   rcases List.mem_cons.mp hb with z | z
   ·rw [z]; exact Nat.lt_succ_self _
   ·rw [List.mem_singleton.mp z]; exact Nat.lt_succ_of_lt ha
  ·rcases List.mem_cons.mp hb with z | z
   ·rw [z]; exact .inr (Nat.le_refl _)
   ·exact .inl (List.mem_singleton.mp z)
 | false =>
  rw [hbt] at hled
  have hled':t.led=true:=hled
  by_cases h1:es.size≤1
  ·have e:(!false && (!t.plain && decide (es.size > 1)))=false:=by
    rw [decide_eq_false (by lia)]; simp
   rw [e,if_neg Bool.false_ne_true]
   refine wpAny_bind (wpAny_pure ?_)
   refine iter_tail y fun x=>?_
   refine h _ _ s.drawn [s.heap.objs.size,a] (es.toList.map (·.2)) _ ⟨keepP _,fun A' hA=>walks_mono (walk_led (ep:=ep) (t:=t) (Nat.ne_of_lt ha) hA hbt hled' h1) fun i v ⟨e,e1,e2⟩=>by rw [List.getElem?_map,Array.getElem?_toList,e1,e2]; rfl,⟨x,y.keep fun o e=>keepP _ _ _ e⟩,fun b hb=>?_,Nat.le_refl _,fun b hb=>?_,List.Perm.refl _⟩
   ·rw [Heap.size_push]
    rcases List.mem_cons.mp hb with z | z
    ·rw [z]; exact Nat.lt_succ_self _
    ·rw [List.mem_singleton.mp z]; exact Nat.lt_succ_of_lt ha
   ·rcases List.mem_cons.mp hb with z | z
    ·rw [z]; exact .inr (Nat.le_refl _)
    ·exact .inl (List.mem_singleton.mp z)
  ·have hp:t.plain=false:=hpl.resolve_left h1
   have e:(!false && (!t.plain && decide (es.size > 1)))=true:=by
    rw [hp,decide_eq_true (by lia)]; rfl
   rw [e,if_pos rfl]
   refine wpAny_bind (wpAny_drawOrder _ _ _ (by simp) fun js d hjs=>?_)
   refine wpAny_bind ?_
   simp only [newTuple]
   refine wpAny_newObj_type ?_ (by show (List.map (fun (i:Nat)=>rawInt (i:Int)) js).toArray.size≤sizeLine; rw [List.size_toArray,List.length_map,hjs.length_eq,List.length_range]; exact hsz)
   have y2:SetAt (s.heap.push { cls:=.type "tuple",data:=.seq (js.map fun (i:Nat)=>rawInt (i:Int)).toArray }) a es ep t:=y.keep fun o e=>keepP _ _ _ e
   refine iter_tail (sx:={ s with heap:=s.heap.push { cls:=.type "tuple",data:=.seq (js.map fun (i:Nat)=>rawInt (i:Int)).toArray },drawn:=d }) y2 fun x=>?_
   have hz:(s.heap.push { cls:=.type "tuple",data:=.seq (js.map fun (i:Nat)=>rawInt (i:Int)).toArray }).objs.size=s.heap.objs.size + 1:=Heap.size_push _ _
   have hI:a≠(s.heap.push { cls:=.type "tuple",data:=.seq (js.map fun (i:Nat)=>rawInt (i:Int)).toArray }).objs.size:=by rw [hz]; exact Nat.ne_of_lt (Nat.lt_succ_of_lt ha)
   have hI2:s.heap.objs.size≠(s.heap.push { cls:=.type "tuple",data:=.seq (js.map fun (i:Nat)=>rawInt (i:Int)).toArray }).objs.size:=by rw [hz]; exact Nat.ne_of_lt (Nat.lt_succ_self _)
   refine h _ _ d [_,a,s.heap.objs.size] (js.map (nthV es)) _ ⟨fun b o e=>Heap.get?_push_of_some _ (keepP _ _ _ e),fun A' hA=>walks_mono (walk_drawn (ep:=ep) (t:=t) (js:=js) hI hI2 hA hjs) fun i v ⟨j,e,e1,e2,e3⟩=>?_,⟨x,y2.keep fun o e=>Heap.get?_push_of_some _ e,_,_,Heap.get?_push_of_some _ (Heap.get?_push_size _ rfl),rfl⟩,fun b hb=>?_,?_,fun b hb=>?_,?_⟩
   ·rw [List.getElem?_map,e1,e3]
    show some (nthV es j)=_
    unfold nthV
    rw [e2]; rfl
   ·rw [Heap.size_push,hz]
    rcases List.mem_cons.mp hb with z | z
    ·rw [z,hz]; exact Nat.lt_succ_self _
    ·rcases List.mem_cons.mp z with z | z
     ·rw [z]; exact Nat.lt_succ_of_lt (Nat.lt_succ_of_lt ha)
     ·rw [List.mem_singleton.mp z]; exact Nat.lt_succ_of_lt (Nat.lt_succ_self _)
   ·rw [hz]; exact Nat.le_succ _
   ·rcases List.mem_cons.mp hb with z | z
    ·rw [z,hz]; exact .inr (Nat.le_succ _)
    ·rcases List.mem_cons.mp z with z | z
     ·exact .inl z
     ·rw [List.mem_singleton.mp z]; exact .inr (Nat.le_refl _)
   ·rw [← nthV_range es]
    exact hjs.map _
end
end L2
set_option Elab.async false
set_option linter.all false
set_option maxRecDepth 100000
set_option maxHeartbeats 4100000
namespace L2
open PySem PySem.Spec PyProof.Rows
section
variable {prog:Program} {w:World} {A:Around} {E:Value→Shared→Prop} {s:Shared}
theorem hint_set {r:Addr} {Q:Bool→Shared→Prop} (hT:s.TypeIs (.ref r) "set") (h:Q false s):wpAny (model prog w) A (Builtin.List.listLengthHint (.ref r)) Q E s:=by
 unfold Builtin.List.listLengthHint
 refine wpAny_bind (wpAny_specialOf hT PySem.F.slot_set_len.lookup ?_)
 generalize hid:("set.__len__":String)=id0
 wp_delta
 rw [show splitId id0=some ("set","__len__") from by subst hid; decide +kernel]
 subst hid
 refine wpAny_bind (wpAny_isInstance (T:="set") (b:=true) hT (by rw [isSubtype_type]; kernel_rfl) ?_)
 refine wpAny_ite_split (fun hab=>absurd hab (by decide)) (fun _=>?_)
 refine wpAny_ite_split (fun _=>?_) (fun hab=>absurd (by decide +kernel) hab)
 exact wpAny_bind (wpAny_typeOf hT (wpAny_pure h))
theorem extend_set {R:Result→Shared→Prop} {a L:Addr} {es:Array (Int×Value)} {ep:Nat} {t:SetTable} {c₀:Nat} (hh:A.handled=none) (y:SetAt s.heap a es ep t) (hsz:es.size≤sizeLine) (hled:t.led=!(w.params.followText "set-order")) (hpl:es.size≤1∨t.plain=false)
  (hLa:L≠a) (hL:s.heap.get? L=some { cls:=.type "list",data:=.seq #[] c₀ }) (res:Value)
  (hR:∀ (h':Heap) (d:Drawn) (tk:Nat) (vs:List Value) (c':Nat),(∀ b o,b≠L→s.heap.get? b=some o→h'.get? b=some o)→h'.get? L=some { cls:=.type "list",dict:=none,data:=.seq vs.toArray c',slots:=#[] }→vs.Perm (es.toList.map (·.2))→R (.ok (.ret res)) { s with heap:=h',drawn:=d,toks:=tk }) :
  wpAny (model prog w) A.in1 (Builtin.List.listExtendWith (.ref L) (.ref a) res) (fun fin s'=>match fin with | .done f=>R (.ok f) s' | .again c'=>c'.quiet=true∧codeAny (model prog w) A c' R s') (fun e s'=>R (.error e) s') s:=by
 obtain ⟨⟨o,g1,g2,g3⟩,hf⟩:=id y
 have hT:s.TypeIs (.ref a) "set":=⟨o,g1,g2.1⟩
 unfold Builtin.List.listExtendWith
 refine wpAny_bind (wpAny_typeOf (T:="set") hT ?_)
 have n1:Builtin.List.listSameRef (.ref L) (.ref a)=false:=by simp [Builtin.List.listSameRef,hLa]
 have n2:(Value.type "set" == Value.type "list")=false:=by decide
 have n3:(Value.type "set" == Value.type "tuple")=false:=by decide
 simp only [n1,n2,n3,Bool.or_false,Bool.false_eq_true,if_false]
 refine wpAny_bind (pyIter_set y hsz hled hpl fun I h' d fp vs St W=>?_)
 have hT':Shared.TypeIs { s with heap:=h',drawn:=d } (.ref a) "set":=⟨o,W.old _ _ g1,g2.1⟩
 have hL1:=W.old _ _ hL
 have hLf:L ∉ fp:=fun hm=>by
  rcases W.apart L hm with z | z
  ·exact hLa z
  ·exact absurd (Heap.lt_size hL) (Nat.not_lt.mpr z)
 have fin:∀ (h1:Heap) (c₁:Nat),St 0 h1→(∀ b o,b≠L→s.heap.get? b=some o→h1.get? b=some o)→h1.get? L=some { cls:=.type "list",data:=.seq #[] c₁ } →
   codeAny (model prog w) A (.builtin "list.extend.loop" ⟨[.ref L,.ref I,res],[]⟩) R { s with heap:=h1,drawn:=d }:=fun h1 c₁ st1 k1 l1=>by
  refine codeAny_extend_loopS (W.walks A.in1 hh).toS hsz L hLf res es.size 0 _ #[] c₁ rfl (Nat.zero_le _) st1 l1 (ItemsOf.nil _) fun s' acc c' hm hl' hacc=>?_
  have eacc:acc.toList=vs:=by
   refine List.ext_getElem? fun i=>?_
   have hlen:vs.length=es.size:=by rw [W.perm.length_eq]; simp
   by_cases hi:i < es.size
   ·have hia:i < acc.size:=by rw [hacc.1]; exact hi
    have:=hacc.2 i acc[i] (Array.getElem?_eq_getElem hia)
    rw [Array.getElem?_toList,Array.getElem?_eq_getElem hia]
    exact this.symm
   ·rw [Array.getElem?_toList,Array.getElem?_eq_none (by rw [hacc.1]; lia),List.getElem?_eq_none (by lia)]
  rw [Moved.eq_with hm]
  refine hR s'.heap d s'.toks vs c' (fun b o hb e=>hm.heap b o (fun hmem=>?_) (k1 b o hb e)) ?_ W.perm
  ·rcases List.mem_cons.mp hmem with z | z
   ·exact hb z
   ·have z':=List.mem_singleton.mp z
    exact absurd (Heap.lt_size e) (Nat.not_lt.mpr (by rw [z']; exact W.new))
  ·rw [← eacc,Array.toArray_toList]; exact hl'
 refine wpAny_bind (wpAny_holding (hint_set hT' ?_))
 refine wpAny_ite_split (fun _=>?_) (fun _=>wpAny_pure ⟨plainId_quiet PySem.F.plain_extend_loop _,fin _ c₀ W.st (fun b o _ e=>W.old b o e) hL1⟩)
 refine wpAny_bind (wpAny_rule ?_)
 refine wpAny_bind ?_
 show wpAny _ _ (updateSeq L (·.push .none) >>= fun _=>updateSeq L (·.pop)) _ _ _
 refine wpAny_bind (wpAny_updateSeq hL1 rfl ?_)
 have l2:=Heap.get?_update_self (Obj.mapSeq (·.push Value.none)) hL1 rfl
 refine wpAny_updateSeq (hz:=by seq_fits) l2 rfl ?_
 have l3:=Heap.get?_update_self (Obj.mapSeq (·.pop)) l2 rfl
 refine wpAny_pure ⟨plainId_quiet PySem.F.plain_extend_loop _,fin _ _ ?_ (fun b o hb e=>?_) l3⟩
 ·refine (W.walks A.in1 hh).frame 0 _ _ W.st fun b hb o e=>?_
  have hbL:L≠b:=fun z=>hLf (by rw [z]; exact hb)
  exact (Heap.get?_update_other _ _ hbL).trans ((Heap.get?_update_other _ _ hbL).trans e)
 ·exact (Heap.get?_update_other _ _ (Ne.symm hb)).trans ((Heap.get?_update_other _ _ (Ne.symm hb)).trans (W.old b o e))
theorem collect_set {R:List Value→Shared→Prop} {a:Addr} {es:Array (Int×Value)} {ep:Nat} {t:SetTable} (hh:A.handled=none) (y:SetAt s.heap a es ep t) (hsz:es.size≤sizeLine) (hled:t.led=!(w.params.followText "set-order")) (hpl:es.size≤1∨t.plain=false)
  (h:∀ (h':Heap) (d:Drawn) (tk:Nat) (vs:List Value),(∀ b o,s.heap.get? b=some o→h'.get? b=some o)→s.heap.objs.size < h'.objs.size→vs.Perm (es.toList.map (·.2))→R vs { s with heap:=h',drawn:=d,toks:=tk }) :
  wpAny (model prog w) A (collect (.ref a)) R E s:=by
 obtain ⟨⟨o,g1,g2,g3⟩,hf⟩:=id y
 have ha:a < s.heap.objs.size:=Heap.lt_size g1
 unfold collect
 refine wpAny_bind (wpAny_runValue (codeAny_builtin entry_proto_collect' ?_)); rw [Around.under_plainId PySem.F.plain_proto_collect _]
 show wpAny _ A.in1 (newList [] >>= fun l=>again (.builtin "list.__iadd__" ⟨[l,.ref a],[]⟩)) _ _ s
 refine wpAny_bind (wpAny_newObj_type ?_ (by show 0≤sizeLine; decide))
 refine wpAny_pure ⟨plainId_quiet PySem.F.plain_list_iadd _,codeAny_builtin entry_list_iadd' ?_⟩; rw [Around.under_plainId PySem.F.plain_list_iadd _]
 have hL:(s.heap.push { cls:=.type "list",data:=.seq ([]:List Value).toArray }).get? s.heap.objs.size=some { cls:=.type "list",data:=.seq #[] }:=Heap.get?_push_size _ rfl
 show wpAny _ A.in1 (Builtin.List.listExtendWith (.ref s.heap.objs.size) (.ref a) (.ref s.heap.objs.size)) _ _ _
 have key:=extend_set (A:=A) (w:=w) (prog:=prog) (s:={ s with heap:=s.heap.push { cls:=.type "list",data:=.seq ([]:List Value).toArray } }) (L:=s.heap.objs.size)
  (R:=fun (q:Result) (s':Shared)=>∃ (h':Heap) (d:Drawn) (tk:Nat) (vs:List Value) (c':Nat),q=.ok (.ret (.ref s.heap.objs.size))∧s'={ s with heap:=h',drawn:=d,toks:=tk } ∧
   (∀ b o,s.heap.get? b=some o→h'.get? b=some o)∧h'.get? s.heap.objs.size=some { cls:=.type "list",dict:=none,data:=.seq vs.toArray c',slots:=#[] }∧vs.Perm (es.toList.map (·.2)))
  hh (y.keep fun o e=>Heap.get?_push_of_some _ e) hsz hled hpl (Nat.ne_of_gt ha) hL (.ref s.heap.objs.size)
  fun h' d tk vs c' hk hl' hp=>⟨h',d,tk,vs,c',rfl,rfl,fun b o e=>hk b o (Nat.ne_of_lt (Heap.lt_size e)) (Heap.get?_push_of_some _ e),hl',hp⟩
 have fin:∀ (s':Shared),(∃ (h':Heap) (d:Drawn) (tk:Nat) (vs:List Value) (c':Nat),s'={ s with heap:=h',drawn:=d,toks:=tk }∧(∀ b o,s.heap.get? b=some o→h'.get? b=some o)∧h'.get? s.heap.objs.size=some { cls:=.type "list",dict:=none,data:=.seq vs.toArray c',slots:=#[] }∧vs.Perm (es.toList.map (·.2))) →
   wpAny (model prog w) A (load s.heap.objs.size >>= fun o=>match o.data with | .seq xs _=>pure xs.toList | _=>unsupported "internal:collect") R E s':=by
  rintro s' ⟨h',d,tk,vs,c',rfl,hk,hl',hp⟩
  refine wpAny_bind (wpAny_load hl' ?_)
  refine wpAny_pure ?_
  have:=h h' d tk vs hk (Heap.lt_size hl') hp
  simpa using this
 refine wpAny_mono key (fun f s' x=>?_) fun e s' x=>?_
 ·cases f with
  | done fl =>
   obtain ⟨h',d,tk,vs,c',e,r⟩:=x
   cases e
   exact fin s' ⟨h',d,tk,vs,c',r⟩
  | again c₁ =>
   refine ⟨x.1,codeAny_mono x.2 fun q s₂ z=>?_⟩
   obtain ⟨h',d,tk,vs,c',rfl,r⟩:=z
   exact fin s₂ ⟨h',d,tk,vs,c',r⟩
 ·obtain ⟨_,_,_,_,_,e',_⟩:=x
  cases e'
end
end L2
set_option Elab.async false
set_option linter.all false
set_option maxRecDepth 100000
set_option maxHeartbeats 4100000
namespace L2
open PySem PySem.Spec PyProof.Rows
structure StrSet (w:World) (h:Heap) (a:Addr) (es:Array (Int×Value)) (ep:Nat) (t:SetTable) (ss:List Str):Prop where
 at_:SetAt h a es ep t
 led:t.led=!(w.params.followText "set-order")
 plain:es.size=0∨t.plain=false
 txt:StrsAre (es.toList.map (·.2)) ss
 hash:∀ e∈es.toList,Ex_2_1 (fun x tk=>e=(hashStr w x,Value.str x tk))
 nd:ss.Nodup
theorem StrSet.keep {w:World} {h h':Heap} {a:Addr} {es:Array (Int×Value)} {ep:Nat} {t:SetTable} {ss:List Str} (x:StrSet w h a es ep t ss) (k:∀ o,h.get? a=some o→h'.get? a=some o):StrSet w h' a es ep t ss :=
 ⟨x.at_.keep k,x.led,x.plain,x.txt,x.hash,x.nd⟩
noncomputable def IsStrSet (w:World) (h:Heap) (a:Addr) (ss:List Str):Prop:=Ex_3_1 (fun es ep t=>StrSet w h a es ep t ss)
noncomputable def setO (w:World) (a:Addr) (ss:List Str):HO:=.ext fun h=>IsStrSet w h a ss
theorem setO_ok {P:Program} {w:World} {H:Hp} {h:Heap} {a:Addr} {ss:List Str} (x:IsStrSet w h a ss):ObjOk P w H h a (setO w a ss):=by
 obtain ⟨es,ep,t,y⟩:=x
 obtain ⟨⟨o,h1,h2⟩,_⟩:=y.at_
 exact ⟨⟨es,ep,t,y⟩,⟨o,h1⟩,fun h1 h2 ⟨es,ep,t,y⟩ k=>⟨es,ep,t,y.keep k⟩⟩
theorem strs_len {vs:List Value} {ss:List Str} (h:StrsAre vs ss):vs.length=ss.length:=by
 induction h with
 | nil=>rfl
 | cons _ _ r ih=>exact congrArg (· + 1) ih
theorem strs_perm:∀ {us vs:List Value},us.Perm vs→∀ {ss:List Str},StrsAre vs ss→∃ ss',StrsAre us ss'∧ss'.Perm ss:=by
 intro us vs p
 induction p with
 | nil=>intro ss h; cases h; exact ⟨[],.nil,List.Perm.refl _⟩
 | cons x _ ih =>
  intro ss h
  cases h with
  | cons y t r =>
   obtain ⟨ss',h1,h2⟩:=ih r
   exact ⟨y :: ss',.cons y t h1,h2.cons y⟩
 | swap x y l =>
  intro ss h
  cases h with
  | cons a t r =>
   cases r with
   | cons b u r2=>exact ⟨b :: a :: _,.cons b u (.cons a t r2),List.Perm.swap _ _ _⟩
 | trans _ _ ih1 ih2 =>
  intro ss h
  obtain ⟨s2,a1,a2⟩:=ih2 h
  obtain ⟨s1,b1,b2⟩:=ih1 a1
  exact ⟨s1,b1,b2.trans a2⟩
theorem vals_strs:∀ {vs:List Value} {ss:List Str},StrsAre vs ss→Vals (ss.map V.str) vs
 | _,_,.nil=>.nil
 | _,_,.cons y t r=>.cons ⟨t,rfl⟩ (vals_strs r)
theorem strs_vals:∀ {ss:List Str} {vs:List Value},Vals (ss.map V.str) vs→StrsAre vs ss
 | [],_,.nil=>.nil
 | s :: ss,_,.cons ⟨t,e⟩ r=>by subst e; exact .cons s t (strs_vals r)
section
variable {prog:Program} {w:World} {A:Around} {E:Value→Shared→Prop} {s:Shared}
theorem sorted_set {a:Addr} {es:Array (Int×Value)} {ep:Nat} {t:SetTable} {ss:List Str} {Q:Value→Shared→Prop} (hh:A.handled=none) (y:StrSet w s.heap a es ep t ss) (h64:ss.length < 64)
  (h:∀ (D:Addr) (h':Heap) (d:Drawn) (tk e:Nat) (out:List Value) (ss':List Str),(∀ b o,s.heap.get? b=some o→h'.get? b=some o)→s.heap.objs.size≤D→h'.get? D=some (seqObj "list" out.toArray e)→StrsAre out ss'→ss'.Perm ss→sortedS ss'=true→Q (.ref D) { s with heap:=h',drawn:=d,toks:=tk }) :
  wpAny (model prog w) A (call (.builtin "sorted") [.ref a]) Q E s:=by
 have hes:es.size=ss.length:=by have:=strs_len y.txt; simpa using this
 have hline:es.size≤sizeLine:=by rw [hes,sizeLine_eq]; lia
 refine Calls.call_function_entry kind_sorted plain_sorted entry_sorted (args_sorted1 _) ?_
 unfold Builtin.«sorted»
 refine wpAny_bind (m:=checkCount "sorted" 1 1 _) (wpAny_pure ?_)
 refine wpAny_bind (collect_set (A:=A.in1) hh y.at_ hline y.led (y.plain.imp (fun z=>by lia) id) fun h1 d tk vs hk hlt1 hp=>?_)
 obtain ⟨sv,b1,b2⟩:=strs_perm hp y.txt
 have hvl:vs.length=ss.length:=by rw [strs_len b1,b2.length_eq]
 refine wpAny_bind (wpAny_newList ?_ (by show vs.toArray.size≤sizeLine; rw [List.size_toArray,hvl,sizeLine_eq]; lia))
 have hoL:(h1.push (seqObj "list" vs.toArray 0)).get? h1.objs.size=some (seqObj "list" vs.toArray 0):=Heap.get?_push_size _ rfl
 refine wpAny_bind (wpAny_holding (wpAny_call_entry slot_list_sort ⟨_,hoL,rfl⟩ PyProof.Rows.entry_list_sort (list_sort_treeK (n:=0) strKind_oneLt hoL b1.keysOf (fun v₁ v₂ rest e=>keyKind_strs (by rw [← e]; exact b1)) (by lia) fun st' a1 a2=>⟨_,rfl,?_⟩) (args_list_sort _)))
 obtain ⟨ss',c1,c2,c3⟩:=sorted_out_str b1 a1 a2
 obtain ⟨e,he⟩:=sortedHeap_at (out:=(arrOf st').map (·.2)) hoL
 refine wpAny_pure ⟨_,rfl,?_⟩
 refine h h1.objs.size _ d tk e _ ss' (fun b o hb=>?_) ?_ (by rw [Array.toArray_toList]; exact he) c1 (c2.trans b2) c3
 ·have hb1:=hk b o hb
  have hlt:b < h1.objs.size:=Heap.lt_size hb1
  rw [sortedHeap_old (Nat.ne_of_lt hlt) (by rw [size_push']; exact Nat.lt_succ_of_lt hlt)]
  exact Heap.get?_push_of_some _ hb1
 ·exact Nat.le_of_lt hlt1
end
end L2
set_option Elab.async false
set_option linter.all false
set_option maxRecDepth 100000
set_option maxHeartbeats 4100000
namespace L2
open PySem PySem.Spec PyProof.Rows
theorem orStandIn_led (t:SetTable) (n:Nat):(t.orStandIn n).led=t.led:=by
 unfold SetTable.orStandIn
 split <;> rfl
theorem layNew_led (t:SetTable) (es:Array (Int×Value)) (h:Int) (x:Value):(layNew t es h x).2.1.led=t.led:=by
 unfold layNew
 split
 ·dsimp only
  rw [orStandIn_led]; rfl
 ·rfl
theorem relaid_is {t t':SetTable} {hs:Array Int} {n:Nat} {o:Array Nat} (h:t.relaid hs n=some (t',o)):t'.led=t.led∧t'.plain=t.plain:=by
 unfold SetTable.relaid SetTable.laid at h
 cases e:SetTable.layClean (SetTable.sizeAbove n - 1) hs with
 | none=>rw [e] at h; cases h
 | some ow =>
  rw [e] at h
  have h':=Option.some.inj h
  have h1:=congrArg (fun q:SetTable×Array Nat=>(q.1.led,q.1.plain)) h'
  have h2:(t.led,t.plain)=(t'.led,t'.plain):=h1
  exact ⟨(congrArg Prod.fst h2).symm,(congrArg Prod.snd h2).symm⟩
theorem relayAll_led (t:SetTable) (es:Array (Int×Value)) (n:Nat):(relayAll t es n).2.1.led=t.led:=by
 unfold relayAll
 split
 ·rename_i t' o e
  dsimp only
  split
  ·exact (relaid_is e).1
  ·rfl
 ·rfl
theorem relayAll_plain (t:SetTable) (es:Array (Int×Value)) (n:Nat) (hp:t.plain=false):(relayAll t es n).2.1.plain=false:=by
 unfold relayAll
 split
 ·rename_i t' o e
  dsimp only
  split
  ·exact (relaid_is e).2.trans hp
  ·rfl
 ·rfl
theorem SetAt.store {h:Heap} {a:Addr} {es es':Array (Int×Value)} {ep:Nat} {t t':SetTable} (y:SetAt h a es ep t) (hf:t'.fits es'.size=true):SetAt (h.update a (Obj.putSet es' t')) a es' (ep + 1) t':=by
 obtain ⟨⟨o,h1,h2,h3⟩,_⟩:=y
 have hg:=Heap.get?_update_self (Obj.putSet es' t') h1 (by rw [putSet_of es' t' h3]; rfl)
 rw [putSet_of es' t' h3] at hg
 exact ⟨⟨_,hg,h2,rfl⟩,hf⟩
theorem mem_strs {x:Str}:∀ {vs:List Value} {ss:List Str},StrsAre vs ss→(x∈ss ↔ ∃ v∈vs,Value.isStrOf x v=true)
 | _,_,.nil=>by simp
 | _,_,.cons y t r=>by
  rw [List.mem_cons,mem_strs r]
  constructor
  ·rintro (rfl | ⟨v,hv,e⟩)
   ·exact ⟨_,List.mem_cons_self ..,by simp [Value.isStrOf]⟩
   ·exact ⟨v,List.mem_cons_of_mem _ hv,e⟩
  ·rintro ⟨v,hv,e⟩
   rcases List.mem_cons.mp hv with rfl | hv
   ·obtain ⟨u,eu⟩:=Value.isStrOf_shape e
    injection eu with e1 _
    exact .inl e1.symm
   ·exact .inr ⟨v,hv,e⟩
section
variable {prog:Program} {w:World} {A:Around} {E:Value→Shared→Prop} {s:Shared}
theorem StrSet.elems {h:Heap} {a:Addr} {es:Array (Int×Value)} {ep:Nat} {t:SetTable} {ss:List Str} (y:StrSet w h a es ep t ss):ElemsOf (PySem.strKind prog w) es.toList:=fun e he=>by
 obtain ⟨x,tk,rfl⟩:=y.hash e he
 exact ⟨⟨x,by show Value.isStrOf x (.str x tk)=true; simp [Value.isStrOf],rfl⟩,rfl⟩
theorem StrSet.size {h:Heap} {a:Addr} {es:Array (Int×Value)} {ep:Nat} {t:SetTable} {ss:List Str} (y:StrSet w h a es ep t ss):es.size=ss.length:=by
 have:=strs_len y.txt
 simpa using this
theorem StrSet.more {h h':Heap} {a:Addr} {es es':Array (Int×Value)} {ep ep':Nat} {t t':SetTable} {ss:List Str} {x:Str} {tk:Tok} (y:StrSet w h a es ep t ss) (hx:x ∉ ss) (st:SetAt h' a es' ep' t') (hl:t'.led=t.led) (hp:t'.plain=false)
  (pm:es'.toList.Perm (es.toList ++ [(hashStr w x,.str x tk)])):∃ ss',StrSet w h' a es' ep' t' ss'∧(∀ z,z∈ss' ↔ z∈ss∨z=x)∧ss'.length=ss.length + 1:=by
 have pm2:(es'.toList.map (·.2)).Perm (es.toList.map (·.2) ++ [.str x tk]):=by
  have:=pm.map (·.2)
  rwa [List.map_append] at this
 have happ:∀ {vs:List Value} {zs:List Str},StrsAre vs zs→StrsAre (vs ++ [.str x tk]) (zs ++ [x]):=fun {vs zs} r=>by
  induction r with
  | nil=>exact .cons x tk .nil
  | cons a t _ ih=>exact .cons a t ih
 obtain ⟨ss',h1,h2⟩:=strs_perm pm2 (happ y.txt)
 refine ⟨ss',⟨st,hl.trans y.led,.inr hp,h1,fun e he=>?_,?_⟩,fun z=>?_,?_⟩
 ·rcases List.mem_append.mp (pm.mem_iff.mp he) with q | q
  ·exact y.hash e q
  ·exact ⟨x,tk,List.mem_singleton.mp q⟩
 ·exact h2.nodup_iff.mpr (nd_snoc y.nd hx)
 ·rw [h2.mem_iff,List.mem_append,List.mem_singleton]
 ·rw [h2.length_eq,List.length_append]; rfl
noncomputable def gq:Bool→Sem Unit
 | true=>rule "set.scan.the-table-gave-way"
 | false=>pure ()
theorem add_str {S:Addr} {es:Array (Int×Value)} {ep:Nat} {t:SetTable} {ss:List Str} {x:Str} {tk:Tok} {Q:Bool→Shared→Prop} (y:StrSet w s.heap S es ep t ss) (hb:ss.length + 1 < scanBound)
  (h:∀ h' es' ep' t' ss' b,Heap.SameBut S s.heap h'→StrSet w h' S es' ep' t' ss'→(∀ z,z∈ss' ↔ z∈ss∨z=x)→ss'.length≤ss.length + 1→Q b { s with heap:=h' }) :
  wpAny (model prog w) A (setAddHashed S (.str x tk) (hashStr w x)) Q E s:=by
 have hel:ElemsOf (PySem.strKind prog w) es.toList:=y.elems
 have hsz:=y.size
 obtain ⟨⟨o,g1,g2,g3⟩,hf⟩:=id y.at_
 have gw:∀ (b:Bool) {s₁:Shared} {Q':Unit→Shared→Prop} {E':Value→Shared→Prop},Q' () s₁→wpAny (model prog w) A (gq b) Q' E' s₁:=fun b s₁ Q' E' hq=>by cases b <;> first | exact wpAny_pure hq | exact wpAny_rule hq
 have hkey:(PySem.strKind prog w).is x (.str x tk)=true:=by show Value.isStrOf x (.str x tk)=true; simp [Value.isStrOf]
 unfold setAddHashed setAddHashedIn
 refine wpAny_holding (wpAny_bind (wpAny_setState_of g1 g3 hf ?_))
 dsimp only
 rw [byScan_of (knd:=PySem.strKind prog w) (x:=.str x tk) rfl (by lia) hel]
 simp only [↓reduceIte]
 unfold setAddByScan
 refine wpAny_bind (wpAny_bind (wpAny_rule (wpAny_bind (wpAny_setScan_of (knd:=PySem.strKind prog w) hkey g1 g3 hf hel ?_))))
 cases hr:List.findIdx? (fun e=>(PySem.strKind prog w).is x e.2) es.toList with
 | some j =>
  dsimp only
  obtain ⟨hj,hpj,_⟩:=List.findIdx?_eq_some_iff_getElem.mp hr
  have hx:x∈ss:=(mem_strs y.txt).mpr ⟨_,List.mem_map.mpr ⟨_,List.getElem_mem hj,rfl⟩,hpj⟩
  refine wpAny_pure (wpAny_pure ?_)
  exact h s.heap es ep t ss _ (Heap.SameBut.refl S s.heap) y (fun z=>⟨.inl,fun q=>q.elim id fun e=>e ▸ hx⟩) (Nat.le_succ _)
 | none =>
  dsimp only
  have hx:x ∉ ss:=fun hx=>by
   obtain ⟨v,hv,e⟩:=(mem_strs y.txt).mp hx
   obtain ⟨p,hp,rfl⟩:=List.mem_map.mp hv
   have:=List.findIdx?_eq_none_iff.mp hr p hp
   rw [show (PySem.strKind prog w).is x p.2=Value.isStrOf x p.2 from rfl,e] at this
   cases this
  have lp:=layNew_perm t es (hashStr w x) (.str x tk)
  have lf:=layNew_fits t es (hashStr w x) (.str x tk)
  have ll:=layNew_led t es (hashStr w x) (.str x tk)
  rw [Array.toList_push] at lp
  refine wpAny_bind (gw _ ?_)
  obtain ⟨L,hL⟩:∃ L,layNew t es (hashStr w x) (.str x tk)=L:=⟨_,rfl⟩
  rw [hL] at lp lf ll ⊢
  obtain ⟨es1,t1,wd,gv⟩:=L
  dsimp only at lp lf ll ⊢
  have hb1:es1.size < scanBound:=by
   have:=lp.length_eq
   rw [List.length_append] at this
   simp at this
   lia
  have tail:∀ {t2:SetTable} {E':Value→Shared→Prop},t2.fits es1.size=true→t2.led=t.led→t2.plain=false→wpAny (model prog w) A (do
    storeSet S es1 t2
    if (!wd && t2.tooFull)=true then do
     gq (relayAll t2 es1 (SetTable.grown es1.size)).2.2
     storeSet S (relayAll t2 es1 (SetTable.grown es1.size)).1 (relayAll t2 es1 (SetTable.grown es1.size)).2.1
     pure (some true)
    else pure (some true)) (fun (r:Option Bool) s'=>Ex_5_6 (fun h' es' ep' t' ss'=>r=some true) (fun h' es' ep' t' ss'=>s'={ s with heap:=h' }) (fun h' es' ep' t' ss'=>Heap.SameBut S s.heap h') (fun h' es' ep' t' ss'=>StrSet w h' S es' ep' t' ss') (fun h' es' ep' t' ss'=>(∀ z,z∈ss' ↔ z∈ss∨z=x)) (fun h' es' ep' t' ss'=>ss'.length=ss.length + 1)) E' s:=fun {t2 E'} f2 l2 p2=>by
   refine wpAny_bind (wpAny_storeSet_of g1 g3 ?_ (fits_of_scanBound hb1))
   have y1:=y.at_.store (es':=es1) (t':=t2) f2
   obtain ⟨⟨o1,k1,k2,k3⟩,_⟩:=id y1
   have sb1:=Heap.SameBut.update s.heap S (Obj.putSet es1 t2)
   split
   ·have rp:=relayAll_perm t2 es1 (SetTable.grown es1.size)
    have rf:=relayAll_fits t2 es1 (SetTable.grown es1.size)
    have rl:=relayAll_led t2 es1 (SetTable.grown es1.size)
    have rq:=relayAll_plain t2 es1 (SetTable.grown es1.size) p2
    have rz:(relayAll t2 es1 (SetTable.grown es1.size)).1.size=es1.size:=by rw [← Array.length_toList,rp.length_eq,Array.length_toList]
    refine wpAny_bind (gw _ ?_)
    refine wpAny_bind (wpAny_storeSet_of k1 k3 ?_ (fits_of_scanBound (by rw [rz]; exact hb1)))
    obtain ⟨ss',a1,a2,a3⟩:=y.more hx (y1.store (es':=(relayAll t2 es1 (SetTable.grown es1.size)).1) (t':=(relayAll t2 es1 (SetTable.grown es1.size)).2.1) rf) (rl.trans l2) rq (rp.trans lp)
    exact wpAny_pure ⟨_,_,_,_,ss',rfl,rfl,sb1.trans (Heap.SameBut.update _ S _),a1,a2,a3⟩
   ·obtain ⟨ss',a1,a2,a3⟩:=y.more hx y1 l2 p2 lp
    exact wpAny_pure ⟨_,_,_,_,ss',rfl,rfl,sb1,a1,a2,a3⟩
  have fin:∀ (r:Option Bool) (s':Shared),(Ex_5_6 (fun h' es' ep' t' ss'=>r=some true) (fun h' es' ep' t' ss'=>s'={ s with heap:=h' }) (fun h' es' ep' t' ss'=>Heap.SameBut S s.heap h') (fun h' es' ep' t' ss'=>StrSet w h' S es' ep' t' ss') (fun h' es' ep' t' ss'=>(∀ z,z∈ss' ↔ z∈ss∨z=x)) (fun h' es' ep' t' ss'=>ss'.length=ss.length + 1)) →
    wpAny (model prog w) A (match r with | some added=>pure added | none=>setAddHashedIn S (.str x tk) (hashStr w x) 99999) Q E s':=by
   rintro r s' ⟨h',es',ep',t',ss',rfl,rfl,a1,a2,a3,a4⟩
   exact wpAny_pure (h h' es' ep' t' ss' true a1 a2 a3 (Nat.le_of_eq a4))
  split
  ·refine wpAny_bind ?_
   rw [hashByValue_scannable 8 rfl]
   refine wpAny_pure ?_
   simp only [plainKind,Bool.false_eq_true,if_false]
   exact wpAny_mono (tail (SetTable.fits_plain_off lf) ll rfl) fin fun _ _ e=>e
  ·rename_i hpl
   refine wpAny_bind (wpAny_pure ?_)
   simp only [if_true]
   exact wpAny_mono (tail lf ll (by simpa using hpl)) fin fun _ _ e=>e
end
end L2
set_option Elab.async false
set_option linter.all false
set_option maxRecDepth 100000
set_option maxHeartbeats 4100000
namespace L2
open PySem PySem.Spec PyProof.Rows
section
variable {prog:Program} {w:World} {A:Around} {E:Value→Shared→Prop} {s:Shared}
theorem upd_loop {R:Result→Shared→Prop} {I S:Addr} {fp wr:List Addr} {P:Nat→Value→Prop} {St:Nat→Heap→Prop} {xs:List Str} (W:Walks prog w A.in1 I fp wr xs.length P St) (hSf:S ∉ fp)
  (hval:∀ i v,P i v→Ex_2_2 (fun x t=>xs[i]?=some x) (fun x t=>v=.str x t)) (hb:xs.length + 1 < scanBound) :
  ∀ (k i:Nat) (s:Shared) (es:Array (Int×Value)) (ep:Nat) (t:SetTable) (ss:List Str),xs.length - i=k→i≤xs.length→St i s.heap→StrSet w s.heap S es ep t ss→(∀ z,z∈ss ↔ z∈xs.take i)→ss.length≤i →
   (∀ h' tk es' ep' t' ss',(∀ b o,b≠S→b ∉ wr→s.heap.get? b=some o→h'.get? b=some o)→StrSet w h' S es' ep' t' ss'→(∀ z,z∈ss' ↔ z∈xs)→ss'.length≤xs.length→R (.ok (.ret .none)) { s with heap:=h',toks:=tk }) →
   codeAny (model prog w) A (.builtin "set.update.loop" ⟨[.ref S,.ref I],[]⟩) R s:=by
 have hSw:S ∉ wr:=fun h=>hSf (W.sub _ h)
 intro k
 induction k with
 | zero =>
  intro i s es ep t ss hk hi hst y hm hlen hR
  have hin:i=xs.length:=by lia
  subst hin
  refine codeAny_builtin PyProof.Rows.F.entry_set_update_loop ?_
  rw [Around.under_plainId PyProof.Rows.F.plain_set_update_loop _]
  show wpAny _ A.in1 (pyNext (.ref I) >>= _) _ _ s
  refine wpAny_bind (W.done s _ _ hst fun h' tk kp=>?_)
  refine wpAny_pure (hR h' tk es ep t ss (fun b o _ hbw e=>kp b o hbw e) (y.keep fun o e=>kp S o hSw e) (fun z=>?_) hlen)
  rw [hm z,List.take_of_length_le (Nat.le_refl _)]
 | succ k ih =>
  intro i s es ep t ss hk hi hst y hm hlen hR
  have hlt:i < xs.length:=by lia
  refine codeAny_builtin PyProof.Rows.F.entry_set_update_loop ?_
  rw [Around.under_plainId PyProof.Rows.F.plain_set_update_loop _]
  show wpAny _ A.in1 (pyNext (.ref I) >>= _) _ _ s
  refine wpAny_bind (W.item i s _ _ hlt hst fun v h1 tk1 hP st1 kp=>?_)
  obtain ⟨x,tx,ex,rfl⟩:=hval i v hP
  have y1:StrSet w h1 S es ep t ss:=y.keep fun o e=>kp S o hSw e
  show wpAny _ A.in1 (holding [Value.str x tx] (setAdd S (.str x tx)) >>= _) _ _ _
  refine wpAny_bind (wpAny_holding ?_)
  unfold setAdd
  refine wpAny_holding (wpAny_bind (wpAny_pyHash_str ?_))
  refine add_str (s:={ s with heap:=h1,toks:=_ }) y1 (by lia) fun h2 es2 ep2 t2 ss2 b sb y2 hm2 hl2=>?_
  refine wpAny_pure ⟨plainId_quiet PyProof.Rows.F.plain_set_update_loop _,ih (i + 1) _ es2 ep2 t2 ss2 (by lia) hlt (W.frame _ _ _ st1 fun b hb o e=>?_) y2 (fun z=>?_) (by lia) fun h3 tk3 es3 ep3 t3 ss3 k3 y3 m3 l3=>?_⟩
  ·exact (sb.2 b fun z=>hSf (z ▸ hb)).trans e
  ·rw [hm2 z,hm z,List.take_add_one,ex,List.mem_append]
   simp
  ·exact hR h3 tk3 es3 ep3 t3 ss3 (fun b o hbS hbw e=>k3 b o hbS hbw ((sb.2 b hbS).trans (kp b o hbw e))) y3 m3 l3
theorem strs_at {vs:List Value} {ss:List Str} (c:StrsAre vs ss):∀ {i:Nat} {v:Value},vs[i]?=some v→Ex_2_2 (fun x t=>ss[i]?=some x) (fun x t=>v=.str x t):=by
 induction c with
 | nil=>intro i v h; cases h
 | cons y t r ih =>
  intro i v h
  cases i with
  | zero=>cases h; exact ⟨y,t,rfl,rfl⟩
  | succ i=>exact ih (i:=i) h
noncomputable abbrev newSetO (w:World):Obj:={ cls:=.type "set",dict:=none,data:=.set #[] 0 (.fresh 0 0 (!(w.params.followText "set-order"))) }
theorem set_new (a:Value) {K:Value→Shared→Prop} (h:K (.ref s.heap.objs.size) { s with heap:=s.heap.push (newSetO w) }) :
  codeAny (model prog w) A (.call (.builtin "set.__new__") ⟨[.type "set",a],[]⟩) (wants K E) s:=by
 refine codeAny_of_tree ?_
 show wpAny _ A.in1 (do checkBuiltinCall "set.__new__" ⟨[.type "set",a],[]⟩; again (.builtin "set.__new__" ⟨[.type "set",a],[]⟩)) _ _ s
 refine wpAny_bind (wpAny_of_eq (PySem.F.newCall_set_1 a) (wpAny_pure ⟨plainId_quiet PySem.F.plain_set_new _,codeAny_builtin PySem.F.entry_set_new ?_⟩))
 rw [Around.under_plainId PySem.F.plain_set_new _]; unfold Builtin.«set.__new__» Builtin.Frozenset.newClass
 have hsub:=sub_set_self
 obtain ⟨hp,g,d,tk,os⟩:=s
 dsimp only
 wp_walk
 refine wpAny_askSetting (wpAny_pure ?_)
 dsimp only
 simp only [newObj]
 exact wpAny_bind (wpAny_alloc (wpAny_pure (wpAny_pure h)))
theorem new_is (h:Heap):StrSet w (h.push (newSetO w)) h.objs.size #[] 0 (.fresh 0 0 (!(w.params.followText "set-order"))) [] :=
 ⟨⟨⟨_,Heap.get?_push_size _ rfl,⟨rfl,rfl,rfl⟩,rfl⟩,by rfl⟩,rfl,.inl rfl,.nil,fun e he=>by simp at he,List.nodup_nil⟩
theorem set_of_list {l:Addr} {items:Array Value} {xs:List Str} {Q:Value→Shared→Prop} (hh:A.handled=none) (hl:s.heap.IsList l items) (hi:StrsAre items.toList xs) (hb:xs.length + 1 < scanBound)
  (h:∀ (h':Heap) (tk:Nat) es ep t ss,StrSet w h' s.heap.objs.size es ep t ss→(∀ z,z∈ss ↔ z∈xs)→ss.length≤xs.length→(∀ b o,s.heap.get? b=some o→h'.get? b=some o)→Q (.ref s.heap.objs.size) { s with heap:=h',toks:=tk }) :
  wpAny (model prog w) A (call (.type "set") [.ref l]) Q E s:=by
 obtain ⟨cm,tl,hmro⟩:=PySem.F.called_set.mro
 have hmade:=PySem.F.called_set.made
 have hsub:=PySem.F.called_set.sub
 refine wpAny_call (codeAny_of_tree ?_)
 show wpAny _ _ (callAny (.type "set") _) _ _ _
 refine wpAny_pure ⟨Code.quiet_builtin _ (by decide +kernel),codeAny_builtin F.entry_type_call ?_⟩
 rw [Around.under_plain (weight_type_call_type "set" [.ref l] []) rfl]
 have w1:=PySem.F.called_set.notType
 have w2:=PySem.F.called_set.canCreate
 have w3:=PySem.F.typeCall_set_1 (.ref l)
 repeat any_goals first | assumption | wp_step
 refine codeAny_mono (set_new (.ref l) (E:=E) (K:=fun obj s₁=>obj=.ref s.heap.objs.size∧s₁={ s with heap:=s.heap.push (newSetO w) }) ⟨rfl,rfl⟩) fun r s₁ hr=>?_
 cases r with
 | error e=>exact hr
 | ok fl =>
  cases fl with
  | ret obj =>
   obtain ⟨rfl,rfl⟩:=hr
   have hN:=new_is (w:=w) s.heap
   have hT:Shared.TypeIs { s with heap:=s.heap.push (newSetO w) } (.ref s.heap.objs.size) "set":=⟨_,Heap.get?_push_size _ rfl,rfl⟩
   have w4:=PySem.F.called_set.init.lookup
   have w5:=PySem.F.called_set.init.bind (.ref s.heap.objs.size)
   repeat any_goals first | assumption | wp_step
   refine codeAny_mono (codeAny_call_builtin (R:=wants (fun r s₂=>r=.none∧Ex_6_5 (fun h' tk es ep t ss=>s₂={ s with heap:=h',toks:=tk }) (fun h' tk es ep t ss=>StrSet w h' s.heap.objs.size es ep t ss) (fun h' tk es ep t ss=>(∀ z,z∈ss ↔ z∈xs)) (fun h' tk es ep t ss=>ss.length≤xs.length) (fun h' tk es ep t ss=>(∀ b o,s.heap.get? b=some o→h'.get? b=some o))) E)
    PySem.F.called_set.init.plain PySem.F.entry_set_init (check_set_init_1 hT ?_)) fun r₂ s₂ hr₂=>?_
   ·obtain ⟨ol,hol,hcl,nl,hdl⟩:=hl
    obtain ⟨ocls,odict,odata,oslots⟩:=ol
    simp only at hcl hdl
    subst hcl; subst hdl
    have hol':(s.heap.push (newSetO w)).get? l=some { cls:=.type "list",dict:=odict,data:=.seq items nl,slots:=oslots }:=Heap.get?_push_of_some _ hol
    have v1:=PySem.F.sub_list_set
    have v2:=PySem.F.sub_list_frozenset
    have v3:(Value.type "list" == Value.type "dict")=false:=by decide
    have hl1:(s.heap.push (newSetO w)).IsList l items:=⟨_,hol',rfl,nl,rfl⟩
    have hz:items.size=xs.length:=by have:=strs_len hi; simpa using this
    have hlS:l < s.heap.objs.size:=Heap.lt_size hol
    have hsz:(s.heap.push (newSetO w)).objs.size=s.heap.objs.size + 1:=Heap.size_push _ _
    unfold Builtin.«set.__init__» noKeywords Builtin.Frozenset.updateFrom
    generalize hPI:pyIter=PI
    wp_walk
    subst hPI
    refine wpAny_pyIter_list hl1 (wpAny_bind (wpAny_runValue ?_))
    have W:=Walks.list (prog:=prog) (w:=w) (A:=A.in1.in1.in1) (by simp [hh]) (s.heap.push (newSetO w)).objs.size l (by rw [hsz]; exact Nat.ne_of_lt (Nat.lt_succ_of_lt hlS)) items
    rw [hz] at W
    refine upd_loop (S:=s.heap.objs.size) W ?_ (fun i v hv=>?_) hb xs.length 0 _ #[] 0 _ [] (by lia) (Nat.zero_le _) ⟨⟨_,Heap.get?_push_size _ rfl,rfl,rfl⟩,hl1.push _⟩ (hN.keep fun o e=>Heap.get?_push_of_some _ e) (fun z=>by simp) (Nat.le_refl _) fun h' tk es ep t ss kp y m hlen=>?_
    ·rw [hsz]
     simp only [List.mem_cons,List.not_mem_nil,or_false,not_or]
     exact ⟨Nat.ne_of_lt (Nat.lt_succ_self _),Nat.ne_of_gt hlS⟩
    ·have hv':items.toList[i]?=some v:=by rw [Array.getElem?_toList]; exact hv
     exact strs_at hi hv'
    ·refine wpAny_pure (wpAny_pure ⟨rfl,h',tk,es,ep,t,ss,rfl,y,m,hlen,fun b o e=>kp b o (Nat.ne_of_lt (Heap.lt_size e)) ?_ (Heap.get?_push_of_some _ (Heap.get?_push_of_some _ e))⟩)
     rw [hsz]
     intro hm
     have hm':=List.mem_singleton.mp hm
     exact absurd (Heap.lt_size e) (by rw [hm']; exact Nat.not_lt.mpr (Nat.le_succ _))
   ·cases r₂ with
    | error e=>exact hr₂
    | ok fl₂ =>
     cases fl₂ with
     | ret r =>
      obtain ⟨rfl,h',tk,es,ep,t,ss,rfl,y,m,hlen,kp⟩:=hr₂
      repeat any_goals first | assumption | wp_step
      exact h _ _ es ep t ss y m hlen kp
     | _=>exact hr₂.elim
  | _=>exact hr.elim
end
end L2
set_option Elab.async false
set_option linter.all false
set_option maxRecDepth 100000
set_option maxHeartbeats 4100000
namespace L2
open PySem PySem.Spec PyProof.Rows
section
variable {X:Cx} {pins:List (Addr×Obj)} {σ:St} {H:Hp} {s:Shared} {h':Heap}
theorem Inv.turnLay {fp:List Addr} {T:Addr} {o:HO} {t':Nat} {d':Drawn} (I:Inv X pins σ H s) (hf:∀ b∈fp,FpOk X pins H b) (hT:s.heap.objs.size≤T) (k:∀ b ob,b ∉ fp→s.heap.get? b=some ob→h'.get? b=some ob)
  (new:ObjOk X.prog X.w (upd H T o) h' T o):Inv X pins σ (upd H T o) { s with heap:=h',toks:=t',drawn:=d' }:=by
 have hTn:H T=none:=I.hok.fresh hT
 have nfp:∀ b u,H b=some u→b ∉ fp:=fun b u e hb=>by rw [(hf b hb).1] at e; cases e
 have lt:∀ b ob,s.heap.get? b=some ob→b≠T:=fun b ob e=>Nat.ne_of_lt (Nat.lt_of_lt_of_le (Heap.lt_size e) hT)
 refine I.step (g':=s.gens) (d':=d') (ch:=fp) (fun b hb=>?_) (fun b ob _ _ hc e _=>k b ob hc e) (fun b ob _ _ hc e _=>⟨ob.slots,k b ob hc e⟩) (fun b ob hc e n=>by rw [upd_ne (lt b ob e)]; exact n)
  (fun b ob hc e=>⟨ob,k b ob hc e⟩) (fun b xs e=>by rw [upd_ne (ne_of_none e hTn)]; exact e) (fun b ob u e=>by rw [upd_ne (ne_of_none e hTn)]; exact e) (fun b ps e=>⟨#[],by rw [upd_ne (ne_of_none e hTn),e]; simp⟩) (fun m hm=>?_) (fun b u e=>?_) I.bare
 ·obtain ⟨_,n1,_,n3,n4,n5⟩:=hf b hb
  exact ⟨n3,n1,n4,n5⟩
 ·obtain ⟨ob,es,ep,ho,r⟩:=hm
  exact ⟨ob,es,ep,k _ ob (fun hb=>(hf _ hb).2.1 rfl) ho,r⟩
 ·by_cases hb:b=T
  ·subst hb
   rw [upd_same] at e
   cases e
   exact new
  ·rw [upd_ne hb] at e
   refine (I.hok b u e).stay (fun c v hc q=>k c v ?_ q) (fun c q=>by rw [upd_ne (ne_of_none q hTn)]; exact q) fun c xs q=>by rw [upd_ne (ne_of_none q hTn)]; exact q
   rcases hc with z | z
   ·rw [z]; exact nfp b u e
   ·exact nfp c _ z
theorem Inv.turnedL {fp:List Addr} {t':Nat} (I:Inv X pins σ H s) (hf:∀ b∈fp,FpOk X pins H b) (k:∀ b ob,b ∉ fp→s.heap.get? b=some ob→h'.get? b=some ob):Inv X pins σ H { s with heap:=h',toks:=t' }:=by
 have nfp:∀ b u,H b=some u→b ∉ fp:=fun b u e hb=>by rw [(hf b hb).1] at e; cases e
 refine I.step (g':=s.gens) (d':=s.drawn) (ch:=fp) (fun b hb=>?_) (fun b ob _ _ hc e _=>k b ob hc e) (fun b ob _ _ hc e _=>⟨ob.slots,k b ob hc e⟩) (fun b ob hc e n=>n)
  (fun b ob hc e=>⟨ob,k b ob hc e⟩) (fun b xs e=>e) (fun b ob u e=>e) (fun b ps e=>⟨#[],by rw [e]; simp⟩) (fun m hm=>?_) (fun b u e=>?_) I.bare
 ·obtain ⟨_,n1,_,n3,n4,n5⟩:=hf b hb
  exact ⟨n3,n1,n4,n5⟩
 ·obtain ⟨ob,es,ep,ho,r⟩:=hm
  exact ⟨ob,es,ep,k _ ob (fun hb=>(hf _ hb).2.1 rfl) ho,r⟩
 ·refine (I.hok b u e).stay (fun c v hc q=>k c v ?_ q) (fun _ q=>q) fun _ _ q=>q
  rcases hc with z | z
  ·rw [z]; exact nfp b u e
  ·exact nfp c _ z
end
noncomputable def Ite (K:PySem.W.Frag) (a:Addr):It :=
 ⟨fun i H=>Ex_2_2 (fun xs x=>SqL K H a xs) (fun xs x=>xs[i]?=some x),fun i H y H'=>Ex_2_4 (fun p x=>y=.ref p) (fun p x=>H p=none) (fun p x=>(∀ xs,SqL K H a xs→xs[i]?=some x)) (fun p x=>H'=upd H p (.tup [.int i,x])),fun i H=>∃ xs,SqL K H a xs∧xs.length≤i⟩
theorem turn_enum {P:Program} {w:World} {K:PySem.W.Frag} {elts:List Expr} {kk:Nat} {tpos:Pos} {a e it:Addr} (hne:e≠it) :
  Turn P w K (.Tuple elts kk tpos) (Ite K a) [e,it] e (fun i h=>(∃ old,IsEnum h e it i old)∧h.IsListIter it a i) where
 mem:=by simp
 obj:=fun i h st b hb=>by
  obtain ⟨⟨old,s1⟩,o2,s2,c2,d2⟩:=st
  rcases List.mem_cons.mp hb with z | z
  ·subst z
   exact ⟨_,s1,fun v q=>by cases q⟩
  ·rw [List.mem_singleton.mp z]
   exact ⟨o2,s2,fun v q=>by rw [d2] at q; cases q⟩
 keep:=fun i h h' st k=>⟨let ⟨old,s1⟩:=st.1; ⟨old,k e (by simp) _ s1⟩,st.2.at fun o q=>k it (by simp) o q⟩
 item:=by
  intro X hP hw hK hc i pins s σ H E I hf st hg
  subst hP hw hK
  obtain ⟨⟨old,s1⟩,s2⟩:=st
  obtain ⟨xs,x,hq,hx⟩:=hg
  obtain ⟨its,rv,p,hz⟩:=I.list hq
  obtain ⟨u,hu,ru⟩:=rv.get hx
  refine wpAny_pyNext_enum_item s1 s2 p.isList (x:=u) (by simpa using hu) hne fun h1 o1 i1 t1 z1 k1=>⟨_,rfl,?_⟩
  refine wpAny_letOwnedTupleGo_enum (s:={ s with heap:=h1,toks:=s.toks + 1 }) o1 fun h2 e2 sb=>?_
  have lt:∀ b ob,s.heap.get? b=some ob→b≠s.heap.objs.size:=fun b ob q=>Nat.ne_of_lt (Heap.lt_size q)
  have k2:∀ b ob,b ∉ [e,it]→s.heap.get? b=some ob→h2.get? b=some ob:=fun b ob hb q=>by
   have n1:b≠e:=fun z=>hb (by simp [z])
   have n2:b≠it:=fun z=>hb (by simp [z])
   exact (sb.2 b n1).trans (k1 b ob n1 n2 q)
  have eT:e≠s.heap.objs.size:=lt e _ s1
  have iT:it≠s.heap.objs.size:=let ⟨o,q,_⟩:=s2; lt it o q
  have new:ObjOk X.prog X.w (upd H s.heap.objs.size (.tup [.int i,x])) h2 s.heap.objs.size (.tup [.int i,x]) :=
   ⟨by show 2≤sizeLine; decide,[.int i s.toks,u],.cons ⟨_,rfl⟩ (.cons ru .nil),⟨_,(sb.2 _ (Ne.symm eT)).trans t1,rfl,_,rfl⟩⟩
  refine ⟨.ref s.heap.objs.size,_,I.turnLay (t':=s.toks + 1) (d':=s.drawn) hf (Nat.le_refl _) k2 new,rfl,⟨_,x,rfl,I.hok.fresh (Nat.le_refl _),fun ys hy=>by rw [I.list_inj hy hq]; exact hx,rfl⟩,⟨⟨_,by simpa using e2⟩,i1.at fun o q=>(sb.2 it hne.symm).trans q⟩,fun b hb=>?_⟩
  have hbT:b≠s.heap.objs.size:=by
   rcases List.mem_cons.mp hb with z | z
   ·rw [z]; exact eT
   ·rw [List.mem_singleton.mp z]; exact iT
  rw [upd_ne hbT]
  exact (hf b hb).1
 done:=by
  intro X hP hw hK hc i pins s σ H E I hf st hg
  subst hP hw hK
  obtain ⟨⟨old,s1⟩,s2⟩:=st
  obtain ⟨xs,hq,hx⟩:=hg
  obtain ⟨its,rv,p,hz⟩:=I.list hq
  refine wpAny_pyNext_enum_end (I.ok.hd hc) s1 s2 p.isList (by rw [List.getElem?_toArray]; exact List.getElem?_eq_none (by rw [← rv.length]; exact hx)) fun h1 k1=>⟨rfl,I.turnedL (t':=s.toks) hf fun b ob hb q=>k1 b ob (fun z=>hb (by simp [z])) q⟩
 self:=fun A i s Q E st q=>wpAny_pyIter_enum st.1.choose_spec q
noncomputable def iEnum (K:PySem.W.Frag) (ta:TA):TI:=fun σ H R=>ta σ H fun vs H1=>Ex_1_3 (fun a=>vs=[.ref a]) (fun a=>(Ex_1_1 (fun xs=>SqL K H1 a xs))) (fun a=>R (Ite K a) H1)
section
variable {X:Cx} {elts:List Expr} {kk:Nat} {tpos:Pos}
theorem pi_enum {l:Expr} {ta:TA} {p pos:Pos} (hg:Gl X "enumerate") (hm:X.mg "enumerate"=none) (ha:PA X [l] ta) (hs:starEach [l] X.env=[(false,eval l X.env)]:=by rfl):PI X (.Tuple elts kk tpos) (.Call (.Name "enumerate" p) [l] [] pos) (iEnum X.K ta):=by
 intro pins s σ H R I h
 refine Call_ (ld_blt I hg hm boot_enumerate (PyProof.Rows.callWith_type1 (thnA (ha pos pins s σ H _ I h) fun us s1 vs H1 I1 r1 q1=>?_) hs rfl))
 obtain ⟨a,rfl,⟨xs,hq⟩,q⟩:=q1
 obtain ⟨u,rfl,ru⟩:=vals1 r1
 cases ru
 obtain ⟨its,rv,pl,hz⟩:=I1.list hq
 refine call_enumerate_list pl.isList fun h1 e1 i1 z1 k1=>?_
 refine wpAny_pyIter_enum e1 ?_
 have I2:Inv X pins σ H1 { s1 with heap:=h1 }:=I1.kept (t':=s1.toks) k1
 refine ⟨s1.heap.objs.size + 1,[s1.heap.objs.size + 1,s1.heap.objs.size],_,Ite X.K a,H1,rfl,I2,turn_enum (Nat.succ_ne_self _),⟨⟨_,by simpa using e1⟩,i1⟩,fun b hb=>?_,q⟩
 rcases List.mem_cons.mp hb with z | z
 ·rw [z]; exact I1.fpOk (Nat.le_succ _) (I1.hok.fresh (Nat.le_succ _))
 ·rw [List.mem_singleton.mp z]; exact I1.fpOk (Nat.le_refl _) (I1.hok.fresh (Nat.le_refl _))
end
theorem for_enum {K:PySem.W.Frag} {a:Addr} {xs:List V} {g:TG} {tb:TS} {D:Ends} {σ:St} {H:Hp} (Pv:Nat→St→Hp→Prop) (h0:Pv 0 σ H) (hl:∀ i σ H,i≤xs.length→Pv i σ H→SqL K H a xs)
  (hs:∀ i x σ H p,xs[i]?=some x→Pv i σ H→H p=none→g (.ref p) σ (upd H p (.tup [.int i,x])) fun σ2 H2=>tb { D with nx:=Pv (i + 1),ct:=Pv (i + 1),bk:=D.nx } σ2 H2) (hd:∀ σ H,Pv xs.length σ H→D.nx σ H) :
  ∃ W:Nat→Nat→St→Hp→Prop,(∃ m,W 0 m σ H)∧∀ i m σ H,W i m σ H →
   ((Ite K a).stop i H∧D.nx σ H)∨((Ite K a).go i H∧∃ N:St→Hp→Prop,(∀ σ' H',N σ' H'→∃ m',m' < m∧W (i + 1) m' σ' H')∧∀ x H',(Ite K a).yld i H x H'→g x σ H' fun σ2 H2=>tb { D with nx:=N,ct:=N,bk:=D.nx } σ2 H2):=by
 refine ⟨fun i m σ H=>m=xs.length - i∧i≤xs.length∧Pv i σ H,⟨xs.length,by simp,Nat.zero_le _,h0⟩,?_⟩
 rintro i m σ H ⟨rfl,hi,p⟩
 have q:=hl i σ H hi p
 by_cases hlt:i < xs.length
 ·refine .inr ⟨⟨xs,xs[i],q,by simp [hlt]⟩,Pv (i + 1),fun σ' H' p'=>⟨xs.length - (i + 1),by lia,rfl,hlt,p'⟩,fun y H' hy=>?_⟩
  obtain ⟨pp,x,rfl,hn,hx,rfl⟩:=hy
  exact hs i x σ H pp (hx xs q) p hn
 ·have e:i=xs.length:=by lia
  subst e
  exact .inl ⟨⟨xs,q,Nat.le_refl _⟩,hd σ H p⟩
end L2
set_option Elab.async false
set_option linter.all false
set_option maxRecDepth 100000
set_option maxHeartbeats 4100000
namespace L2
open PySem PySem.Spec PyProof.Rows
section
variable {X:Cx} {elts:List Expr} {kk:Nat} {tpos:Pos}
end
section
variable {X:Cx}
theorem call_set_of (hcalm:X.calm=true):CallR X (.type "set") (fun xs H Q=>Ex_2_4 (fun (p:Addr) (ss:List Str)=>xs=[.ref p]) (fun p ss=>SqL X.K H p (ss.map V.str)) (fun p ss=>ss.length + 1 < 4096) (fun p ss=>∀ (l:Addr) (us:List Str),H l=none→us.Nodup→(∀ z,z∈us ↔ z∈ss)→us.length≤ss.length→Q (.ref l) (upd H l (setO X.w l us)))):=by
 intro pins s σ H xs us Q I r h
 obtain ⟨p,ss,rfl,hp,hb,q⟩:=h
 obtain ⟨u,rfl,ru⟩:=vals1 r
 cases ru
 obtain ⟨its,rv,pl,hz⟩:=I.list hp
 refine set_of_list (xs:=ss) (I.ok.hd hcalm) pl.isList (strs_vals rv) hb fun h' tk es ep t us y m hlen k=>?_
 exact ⟨.ref s.heap.objs.size,_,I.laid (t':=tk) (o:=setO X.w s.heap.objs.size us) k (Nat.le_refl _) (setO_ok ⟨es,ep,t,y⟩),rfl,q _ us (I.hok.fresh (Nat.le_refl _)) y.nd m hlen⟩
noncomputable def RisingT (ss:List Str):Prop:=ss.Pairwise fun a b=>a.cps.toList < b.cps.toList
theorem rising_le {p:Str}:∀ {r:List Str},risingS p r=true→∀ x∈r,¬ x.cps.toList < p.cps.toList
 | [],_,x,h=>by cases h
 | y :: r,h,x,hx=>by
  have h':(!ltCps y.cps.toList p.cps.toList && risingS y r)=true:=h
  rw [Bool.and_eq_true] at h'
  have hy:¬ y.cps.toList < p.cps.toList:=by
   have:=h'.1
   rw [ltCps_eq] at this
   simpa using this
  rcases List.mem_cons.mp hx with rfl | hx
  ·exact hy
  ·have:=rising_le h'.2 x hx
   exact List.not_lt.mpr (List.le_trans (List.not_lt.mp hy) (List.not_lt.mp this))
theorem rising_of:∀ {ss:List Str},sortedS ss=true→ss.Nodup→RisingT ss
 | [],_,_=>List.Pairwise.nil
 | p :: r,h,nd=>by
  obtain ⟨n1,n2⟩:=List.nodup_cons.mp nd
  refine List.Pairwise.cons (fun x hx=>?_) (rising_of (ss:=r) ?_ n2)
  ·have h1:=rising_le (p:=p) (r:=r) h x hx
   by_cases z:p.cps.toList < x.cps.toList
   ·exact z
   ·have:p=x:=PyProof.Rows.ext_toList (List.le_antisymm (List.not_lt.mp h1) (List.not_lt.mp z))
    exact absurd (this ▸ hx) n1
  ·cases r with
   | nil=>rfl
   | cons y r' =>
    have h':(!ltCps y.cps.toList p.cps.toList && risingS y r')=true:=h
    rw [Bool.and_eq_true] at h'
    exact h'.2
theorem call_sorted_set (hcalm:X.calm=true):CallR X (.builtin "sorted") (fun xs H Q=>Ex_2_5 (fun (p:Addr) (ss:List Str)=>xs=[.ref p]) (fun p ss=>H p=some (setO X.w p ss)) (fun p ss=>ss.length < 64) (fun p ss=>ss.Nodup) (fun p ss=>∀ (l:Addr) (us:List Str),H l=none→us.Perm ss→RisingT us→Q (.ref l) (upd H l (.lst (us.map V.str))))):=by
 intro pins s σ H xs us Q I r h
 obtain ⟨p,ss,rfl,hp,h64,hnd,q⟩:=h
 obtain ⟨u,rfl,ru⟩:=vals1 r
 cases ru
 obtain ⟨⟨es,ep,t,y⟩,_⟩:=I.hok p _ hp
 refine sorted_set (I.ok.hd hcalm) y h64 fun D h' d tk e out ss' k hD hD2 c1 c2 c3=>?_
 have hl:ss'.length≤sizeLine:=by rw [c2.length_eq,sizeLine_eq]; lia
 have new:ObjOk X.prog X.w (upd H D (.lst (ss'.map V.str))) h' D (.lst (ss'.map V.str)):=⟨by rw [List.length_map]; exact hl,out,e,vals_strs c1,hD2⟩
 exact ⟨.ref D,_,I.turnLay (fp:=[]) (fun b hb=>nomatch hb) hD (fun b ob _ q=>k b ob q) new,rfl,q D ss' (I.hok.fresh hD) c2 (rising_of c3 (c2.nodup_iff.mpr hnd))⟩
theorem rising_one:∀ {xs ys:List Str},RisingT xs→RisingT ys→(∀ z,z∈xs ↔ z∈ys)→xs=ys
 | [],[],_,_,_=>rfl
 | [],y :: ys,_,_,h=>by have:=(h y).mpr (List.mem_cons_self ..); cases this
 | x :: xs,[],_,_,h=>by have:=(h x).mp (List.mem_cons_self ..); cases this
 | x :: xs,y :: ys,hx,hy,h=>by
  obtain ⟨x1,x2⟩:=List.pairwise_cons.mp hx
  obtain ⟨y1,y2⟩:=List.pairwise_cons.mp hy
  have e:x=y:=by
   rcases List.mem_cons.mp ((h x).mp (List.mem_cons_self ..)) with z | z
   ·exact z
   ·rcases List.mem_cons.mp ((h y).mpr (List.mem_cons_self ..)) with t | t
    ·exact t.symm
    ·exact absurd (List.lt_trans (y1 x z) (x1 y t)) (List.lt_irrefl _)
  subst e
  congr 1
  refine rising_one x2 y2 fun z=>⟨fun hz=>?_,fun hz=>?_⟩
  ·rcases List.mem_cons.mp ((h z).mp (List.mem_cons_of_mem _ hz)) with t | t
   ·subst t; exact absurd (x1 z hz) (List.lt_irrefl _)
   ·exact t
  ·rcases List.mem_cons.mp ((h z).mpr (List.mem_cons_of_mem _ hz)) with t | t
   ·subst t; exact absurd (y1 z hz) (List.lt_irrefl _)
   ·exact t
end
end L2
set_option Elab.async false
set_option linter.all false
set_option maxRecDepth 100000
set_option maxHeartbeats 4100000
namespace L2
open PySem PySem.Spec PyProof.Rows
section
variable {X:Cx}
noncomputable def rInsert:V→List V→Hp→VK→Prop:=fun x vs H Q=>Ex_4_6 (fun (l:Addr) (xs:List V) (y:V) (i:Nat)=>x=.ref l) (fun l xs y i=>vs=[.int i,y]) (fun l xs y i=>H l=some (.lst xs)) (fun l xs y i=>xs.length < sizeLine) (fun l xs y i=>i≤xs.length) (fun l xs y i=>Q .non (upd H l (.lst (xs.take i ++ y :: xs.drop i))))
theorem mt_insert:MtM X "list.insert" rInsert:=by
 intro pins s σ H x vs v us Q I rx rv h
 obtain ⟨l,xs,y,i,rfl,rfl,hH,hz,hi,q⟩:=h
 cases rx
 obtain ⟨u1,u2,rfl,r1,r2⟩:=rv.two
 obtain ⟨t,rfl⟩:=r1
 obtain ⟨z,its,n,r,hl,e⟩:=I.lstM hH
 have hb:(i:Int) < 2 ^ 63:=by
  have hs:sizeLine < 2 ^ 62:=by rw [sizeLine_eq]; decide
  lia
 have hfit:Builtin.List.listFitsIndex (i:Int)=true:=fitsIndex_both (by lia) hb
 have hits:its.toArray.size≤sizeLine:=by rw [List.size_toArray]; lia
 have hlen:(xs.take i ++ y :: xs.drop i).length≤sizeLine:=by
  rw [List.length_append,List.length_cons,List.length_take,List.length_drop]
  lia
 have hk:(if (i:Int) < 0 then ((i:Int) + (its.toArray.size:Int)).toNat else min (i:Int).toNat its.toArray.size)=i:=by
  rw [if_neg (by lia),Int.toNat_natCast,List.size_toArray]; lia
 have hf:(fun zs:Array Value=>have k:=if (i:Int) < 0 then ((i:Int) + (zs.size:Int)).toNat else min (i:Int).toNat zs.size; (zs.extract 0 k).push u2 ++ zs.extract k) its.toArray=(its.take i ++ u2 :: its.drop i).toArray:=by
  show (its.toArray.extract 0 (if (i:Int) < 0 then ((i:Int) + (its.toArray.size:Int)).toNat else min (i:Int).toNat its.toArray.size)).push u2 ++ its.toArray.extract (if (i:Int) < 0 then ((i:Int) + (its.toArray.size:Int)).toNat else min (i:Int).toNat its.toArray.size)=_
  rw [hk]
  exact PySem.W.kl_ins_eq its i u2
 have hfin:=I.lset (t':=s.toks) (f:=fun zs:Array Value=>have k:=if (i:Int) < 0 then ((i:Int) + (zs.size:Int)).toNat else min (i:Int).toNat zs.size; (zs.extract 0 k).push u2 ++ zs.extract k) (its':=its.take i ++ u2 :: its.drop i) (ys:=xs.take i ++ y :: xs.drop i) hH e hf ((r.take i).append (.cons r2 (r.drop i))) hlen
 have hnf:¬(!Builtin.List.listFitsIndex (i:Int))=true:=by rw [hfit]; exact Bool.false_ne_true
 clear hb hfit hlen hk hf
 generalize hx:(i:Int)=x at hfin hnf
 exact call_meets F.slot_list_insert ⟨_,e,rfl⟩ F.entry_list_insert (F.args_list_insert_3 _ _ _) (AutoSeq1.list_insert_list_int_val_1 l its.toArray n x t u2 hnf hits) ⟨e,.non,_,hfin,rfl,q⟩
end
theorem in1_units {A:Around}:A.in1.units=A.units + 1:=rfl
section
variable {X:Cx} {pins:List (Addr×Obj)} {σ:St} {H:Hp} {s:Shared}
theorem items_at {xs:List V} {its:List Value} (r:Vals xs its) {j:Nat} (h:j < its.toArray.size):∃ x,xs[j]?=some x∧RelV x its.toArray[j]:=by
 have hj:j < its.length:=by simpa using h
 have hx:j < xs.length:=by rw [r.length]; exact hj
 obtain ⟨u,hu,ru⟩:=r.get (List.getElem?_eq_getElem hx)
 refine ⟨xs[j],List.getElem?_eq_getElem hx,?_⟩
 rw [List.getElem?_eq_getElem hj] at hu
 have:its.toArray[j]=u:=by simpa using Option.some.inj hu
 rw [this]
 exact ru
end
section
variable {X:Cx}
end
theorem hu_deep {A:Around} {k:Nat} (hr:Room k A):A.units + 10 < cLine:=by have:=hr.units; lia
theorem call_list_ofK {X:Cx} {K:PySem.W.Frag} (hK:X.K=K):CallR X (.type "list") (fun xs H Q=>Ex_2_3 (fun p ys=>xs=[.ref p]) (fun p ys=>(SqL K H p ys∨SqT K H p ys)) (fun p ys=>∀ l,H l=none→Q (.ref l) (upd H l (.lst ys)))):=hK ▸ call_list_of
theorem Same.at {H H':Hp} {D:Addr} {o:HO} (hD:H D=none) (s:Same H H'):Same H (upd H' D o):=fun b u e=>by rw [upd_ne (ne_of_none e hD)]; exact s b u e
theorem SqT.lset {K:PySem.W.Frag} {H:Hp} {a l:Addr} {xs zs ys:List V} (hl:H l=some (.lst zs)) (h:SqT K H a xs):SqT K (upd H l (.lst ys)) a xs:=by
 rcases h with (h | ⟨o,h⟩) | h
 ·exact .inl (.inl (by rw [upd_ne (ne_of h hl (by intro z; cases z))]; exact h))
 ·exact .inl (.inr ⟨o,by rw [upd_ne (ne_of h hl (by intro z; cases z))]; exact h⟩)
 ·exact .inr h
end L2
set_option Elab.async false
set_option linter.all false
set_option maxRecDepth 100000
set_option maxHeartbeats 4100000
namespace L2
open PySem PySem.Spec PyProof.Rows
theorem txt_vals:∀ {ss:List Str} {us:List Value},Vals (ss.map V.str) us→∃ l:List (Str×Tok),us=strValues l∧l.map (·.1)=ss:=by
 intro ss
 induction ss with
 | nil=>intro us r; cases r; exact ⟨[],rfl,rfl⟩
 | cons z ss ih =>
  intro us r
  cases r with
  | cons r rs =>
   obtain ⟨t,rfl⟩:=r
   obtain ⟨l,rfl,e⟩:=ih rs
   exact ⟨(z,t) :: l,rfl,by rw [List.map_cons,e]⟩
section
variable {X:Cx}
noncomputable def rJoin (K:PySem.W.Frag):V→List V→Hp→VK→Prop:=fun x vs H Q=>Ex_3_5 (fun (sep:Str) (p:Addr) (ss:List Str)=>x=.str sep) (fun sep p ss=>vs=[.ref p]) (fun sep p ss=>SqL K H p (ss.map V.str)) (fun sep p ss=>JoinOk sep ss=true) (fun sep p ss=>Q (.str (Str.join sep ss)) H)
theorem mt_join:MtR X "str.join" (rJoin X.K):=by
 intro pins s σ H x vs v us Q I rx rv h
 obtain ⟨sep,p,ss,rfl,rfl,hp,hok,q⟩:=h
 obtain ⟨t,rfl⟩:=rx
 obtain ⟨u,rfl,ru⟩:=vals1 rv
 cases ru
 obtain ⟨its,r,pl,hz⟩:=I.list hp
 obtain ⟨l,rfl,e⟩:=txt_vals r
 refine SC.join pl.isList e hok fun t' k=>⟨.str (Str.join sep ss),H,I.tok k,⟨t',?_⟩,q⟩
 show Value.str (Builtin.Str.glued sep ss) t'=_
 rw [StrLaws.glued_eq_join]
theorem joinOk_of {sep:Str} {ss:List Str} {B:Nat} (hB:∀ y∈ss,y.length≤B) (h:ss.length * B + ss.length * sep.length≤16777216):JoinOk sep ss=true:=by
 unfold JoinOk
 rw [StrLaws.joinFits hB h]; rfl
theorem call_all_bools (hcalm:X.calm=true):CallR X (.builtin "all") (fun xs H Q=>Ex_2_3 (fun (p:Addr) (bs:List Bool)=>xs=[.ref p]) (fun p bs=>SqL X.K H p (bs.map V.bl)) (fun p bs=>Q (.bl (bs.all id)) H)):=by
 intro pins s σ H xs us Q I r h
 obtain ⟨p,bs,rfl,hp,q⟩:=h
 obtain ⟨u,rfl,ru⟩:=vals1 r
 cases ru
 obtain ⟨its,rv,pl,hz⟩:=I.list hp
 have hlt:p < s.heap.objs.size:=let ⟨o,n,e,_⟩:=pl; Heap.lt_size e
 have hlen:its.length=bs.length:=by rw [← rv.length,List.length_map]
 have hrg:(List.range its.toArray.size).all (fun i=>bs.getD i false)=bs.all id:=by
  rw [List.size_toArray,hlen]
  clear hlen rv hp q hz
  induction bs with
  | nil=>rfl
  | cons b bs ih =>
   rw [List.length_cons,List.range_succ_eq_map,List.all_cons,List.all_cons,List.all_map,← ih]
   rfl
 refine call_all_walk (wpAny_pyIter_list pl.isList ?_)
 refine ⟨s.heap.objs.size,_,_,_,_,_,fun i=>bs.getD i false,rfl,Walks.list (A:=X.A.in1) (I.ok.hd hcalm) _ p (Nat.ne_of_lt hlt) its.toArray,⟨⟨_,Heap.get?_push_size _ rfl,rfl,rfl⟩,pl.isList.push _⟩,fun i v s' Q' E' hv hq=>?_,fun h' tk hk=>?_⟩
 ·have hv':its[i]?=some v:=by
   have hv2:its.toArray[i]?=some v:=hv
   rwa [List.getElem?_toArray] at hv2
  have hi:i < bs.length:=by
   have:=(List.getElem?_eq_some_iff.mp hv').1
   lia
  obtain ⟨u,hu,ht⟩:=rv.get (i:=i) (x:=.bl bs[i]) (by rw [List.getElem?_map,List.getElem?_eq_getElem hi]; rfl)
  rw [hv'] at hu
  have e:bs.getD i false=bs[i]:=by rw [List.getD_eq_getElem?_getD,List.getElem?_eq_getElem hi]; rfl
  rw [Option.some.inj hu,show u=Value.bool bs[i] from ht,← e]
  exact wpAny_truthy_bool hq
 ·rw [hrg]
  refine ⟨.bl _,H,I.kept (t':=tk) fun b o eb=>hk b o (fun hm=>?_) (Heap.get?_push_of_some _ eb),rfl,q⟩
  have hm':=List.mem_singleton.mp hm
  exact absurd (Heap.lt_size eb) (by rw [hm']; exact Nat.lt_irrefl _)
end
inductive DC (K:PySem.W.Frag) (H:Hp):Nat→V→V→Bool→Prop
 | flat {n:Nat} {x y:V}:flatV x=true→flatV y=true→DC K H n x y (eqV x y)
 | same {n:Nat} {p:Addr}:DC K H n (.ref p) (.ref p) true
 | lst {n:Nat} {a b:Addr} {xs ys:List V} (e:Nat→Bool):SqL K H a xs→SqL K H b ys→xs.length=ys.length→(∀ (i:Nat) x y,xs[i]?=some x→ys[i]?=some y→DC K H n x y (e i))→DC K H (n + 1) (.ref a) (.ref b) ((List.range xs.length).all e)
 | len {n:Nat} {a b:Addr} {xs ys:List V}:SqL K H a xs→SqL K H b ys→xs.length≠ys.length→DC K H (n + 1) (.ref a) (.ref b) false
 | tup {n:Nat} {a b:Addr} {xs ys:List V} (e:Nat→Bool):SqT K H a xs→SqT K H b ys→(∀ (i:Nat) x y,xs[i]?=some x→ys[i]?=some y→DC K H n x y (e i))→DC K H (n + 1) (.ref a) (.ref b) ((List.range (min xs.length ys.length)).all e && xs.length == ys.length)
section
variable {X:Cx} {pins:List (Addr×Obj)} {σ:St} {H:Hp} {s:Shared}
theorem DC.self_flat {K:PySem.W.Frag} {H:Hp} {n:Nat} {x y:V} {k:Bool} (d:DC K H n x y k) (e:x=y) (hx:∀ q,x≠.ref q):k=true:=by
 cases d with
 | flat f1 f2=>subst e; exact eqV_self f1
 | same=>exact absurd rfl (hx _)
 | lst e ha hb hl hi=>exact absurd rfl (hx _)
 | len ha hb hl=>exact absurd rfl (hx _)
 | tup e ha hb hi=>exact absurd rfl (hx _)
theorem DC.ref_same {K:PySem.W.Frag} {H:Hp} {n:Nat} {x y:V} {k:Bool} (d:DC K H n x y k):∀ {p:Addr},x=.ref p→y=.ref p→(∀ q xs,SqT K H q xs→∀ ys,SqT K H q ys→ys=xs)→(∀ q xs,SqL K H q xs→∀ ys,SqL K H q ys→ys=xs)→k=true:=by
 induction d with
 | @flat n x y fx fy=>intro p e1 e2 _ _; subst e1; cases fx
 | same=>intros; rfl
 | @lst n a b xs ys e ha hb hl hi ih =>
  intro p e1 e2 jt jl
  cases e1
  cases e2
  have exy:=jl _ _ ha _ hb
  subst exy
  rw [List.all_eq_true]
  intro i hi'
  have hlt:=List.mem_range.mp hi'
  by_cases hq:∃ q,ys[i]=.ref q
  ·obtain ⟨q,hx⟩:=hq
   exact ih i _ _ (List.getElem?_eq_getElem hlt) (List.getElem?_eq_getElem hlt) hx hx jt jl
  ·exact (hi i _ _ (List.getElem?_eq_getElem hlt) (List.getElem?_eq_getElem hlt)).self_flat rfl fun q h=>hq ⟨q,h⟩
 | @len n a b xs ys ha hb hl =>
  intro p e1 e2 jt jl
  cases e1
  cases e2
  exact absurd (by rw [jl _ _ ha _ hb]) hl
 | @tup n a b xs ys e ha hb hi ih =>
  intro p e1 e2 jt jl
  cases e1
  cases e2
  have exy:=jt _ _ ha _ hb
  subst exy
  rw [Nat.min_self,Bool.and_eq_true,List.all_eq_true]
  refine ⟨fun i hi'=>?_,beq_self_eq_true _⟩
  have hlt:=List.mem_range.mp hi'
  by_cases hq:∃ q,ys[i]=.ref q
  ·obtain ⟨q,hx⟩:=hq
   exact ih i _ _ (List.getElem?_eq_getElem hlt) (List.getElem?_eq_getElem hlt) hx hx jt jl
  ·exact (hi i _ _ (List.getElem?_eq_getElem hlt) (List.getElem?_eq_getElem hlt)).self_flat rfl fun q h=>hq ⟨q,h⟩
theorem dc_at {n:Nat} {x y:V} {k:Bool} (d:DC X.K H n x y k) (I:Inv X pins σ H s):∀ {A:Around} {u v:Value},RelV x u→RelV y v→A.units + n < cLine→SeqAt.EqAt A s u v k:=by
 have jt:∀ q xs,SqT X.K H q xs→∀ ys,SqT X.K H q ys→ys=xs:=fun q xs h1 ys h2=>I.tuple_inj h2 h1
 have jl:∀ q xs,SqL X.K H q xs→∀ ys,SqL X.K H q ys→ys=xs:=fun q xs h1 ys h2=>I.list_inj h2 h1
 induction d with
 | @flat n x y fx fy=>intro A u v ru rv _; exact eqAt_V (A:=A) (s:=s) ru rv fx fy
 | same=>intro A u v ru rv _; cases ru; cases rv; exact SeqAt.EqAt.same _
 | @lst n a b xs ys e ha hb hl hi ih =>
  intro A u v ru rv hu
  cases ru
  cases rv
  by_cases hab:a=b
  ·subst hab
   have e1:=(DC.lst (n:=n) e ha hb hl hi).ref_same rfl rfl jt jl
   rw [e1]; exact SeqAt.EqAt.same _
  ·obtain ⟨ia,ra,pa,_⟩:=I.list ha
   obtain ⟨ib,rb,pb,_⟩:=I.list hb
   refine SeqAt.EqAt.of_refs hab ?_
   have key:=SeqAt.RcAt.lists (A:=A) (e:=e) pa.isList pb.isList (by rw [List.size_toArray,List.size_toArray,← ra.length,← rb.length]; exact hl) (by lia) fun j h1 h2=>by
    obtain ⟨x,ex,rx⟩:=items_at ra h1
    obtain ⟨y,ey,ry⟩:=items_at rb h2
    exact ih j x y ex ey rx ry (by rw [in1_units]; lia)
   rwa [List.size_toArray,← ra.length] at key
 | @len n a b xs ys ha hb hl =>
  intro A u v ru rv hu
  cases ru
  cases rv
  have hab:a≠b:=fun z=>hl (by subst z; rw [I.list_inj ha hb])
  obtain ⟨ia,ra,pa,_⟩:=I.list ha
  obtain ⟨ib,rb,pb,_⟩:=I.list hb
  exact SeqAt.EqAt.of_refs hab (SeqAt.RcAt.lists_lengths (A:=A) pa.isList pb.isList (by rw [List.size_toArray,List.size_toArray,← ra.length,← rb.length]; exact bne_iff_ne.mpr hl) (by lia))
 | @tup n a b xs ys e ha hb hi ih =>
  intro A u v ru rv hu
  cases ru
  cases rv
  by_cases hab:a=b
  ·subst hab
   have e1:=(DC.tup (n:=n) e ha hb hi).ref_same rfl rfl jt jl
   rw [e1]; exact SeqAt.EqAt.same _
  ·obtain ⟨ia,ra,pa,_⟩:=I.tuple ha
   obtain ⟨ib,rb,pb,_⟩:=I.tuple hb
   refine SeqAt.EqAt.of_refs hab ?_
   have key:=SeqAt.RcAt.tuples (A:=A) (e:=e) (show s.heap.IsTuple a ia.toArray from pa) (show s.heap.IsTuple b ib.toArray from pb) (by lia) fun j h1 h2=>by
    obtain ⟨x,ex,rx⟩:=items_at ra h1
    obtain ⟨y,ey,ry⟩:=items_at rb h2
    exact ih j x y ex ey rx ry (by rw [in1_units]; lia)
   rwa [List.size_toArray,List.size_toArray,← ra.length,← rb.length] at key
end
section
variable {X:Cx}
inductive DT (K:PySem.W.Frag) (H:Hp):Addr→Addr→Bool→Prop
 | lst {a b:Addr} {xs ys:List V} (e:Nat→Bool):SqL K H a xs→SqL K H b ys→xs.length=ys.length→(∀ (i:Nat) x y,xs[i]?=some x→ys[i]?=some y→DC K H 8 x y (e i))→DT K H a b ((List.range xs.length).all e)
 | len {a b:Addr} {xs ys:List V}:SqL K H a xs→SqL K H b ys→xs.length≠ys.length→DT K H a b false
 | tup {a b:Addr} {xs ys:List V} (e:Nat→Bool):SqT K H a xs→SqT K H b ys→(∀ (i:Nat) x y,xs[i]?=some x→ys[i]?=some y→DC K H 8 x y (e i))→DT K H a b ((List.range (min xs.length ys.length)).all e && xs.length == ys.length)
theorem op_eqC (hu:X.A.units + 10 < cLine):OpR X (compareOp .Eq) (fun x y H Q=>Ex_3_4 (fun a b k=>x=.ref a) (fun a b k=>y=.ref b) (fun a b k=>DT X.K H a b k) (fun a b k=>Q (.bl k) H)):=by
 intro pins s σ H x y v u Q I rx ry h
 obtain ⟨a,b,k,rfl,rfl,d,q⟩:=h
 cases rx
 cases ry
 cases d with
 | @lst xs ys e ha hb hl hi =>
  obtain ⟨ia,ra,pa,_⟩:=I.list ha
  obtain ⟨ib,rb,pb,_⟩:=I.list hb
  refine SeqAt.eq_listAt (e:=e) pa.isList pb.isList (by rw [List.size_toArray,List.size_toArray,← ra.length,← rb.length]; exact hl) (by lia) (fun j h1 h2=>?_) ?_
  ·obtain ⟨x,ex,rx⟩:=items_at ra h1
   obtain ⟨y,ey,ry⟩:=items_at rb h2
   exact dc_at (hi j x y ex ey) I rx ry (by rw [in1_units]; lia)
  ·rw [List.size_toArray,← ra.length]
   exact ⟨.bl _,H,I,rfl,q⟩
 | @len xs ys ha hb hl =>
  obtain ⟨ia,ra,pa,_⟩:=I.list ha
  obtain ⟨ib,rb,pb,_⟩:=I.list hb
  exact SeqAt.eq_list_lengthsAt pa.isList pb.isList (by rw [List.size_toArray,List.size_toArray,← ra.length,← rb.length]; exact bne_iff_ne.mpr hl) (by lia) ⟨.bl _,H,I,rfl,q⟩
 | @tup xs ys e ha hb hi =>
  obtain ⟨ia,ra,pa,_⟩:=I.tuple ha
  obtain ⟨ib,rb,pb,_⟩:=I.tuple hb
  refine SeqAt.eq_tupleAt (e:=e) (show s.heap.IsTuple a ia.toArray from pa) (show s.heap.IsTuple b ib.toArray from pb) (by lia) (fun j h1 h2=>?_) ?_
  ·obtain ⟨x,ex,rx⟩:=items_at ra h1
   obtain ⟨y,ey,ry⟩:=items_at rb h2
   exact dc_at (hi j x y ex ey) I rx ry (by rw [in1_units]; lia)
  ·rw [List.size_toArray,List.size_toArray,← ra.length,← rb.length]
   exact ⟨.bl _,H,I,rfl,q⟩
theorem op_neC (hu:X.A.units + 10 < cLine):OpR X (compareOp .NotEq) (fun x y H Q=>Ex_3_4 (fun a b k=>x=.ref a) (fun a b k=>y=.ref b) (fun a b k=>DT X.K H a b k) (fun a b k=>Q (.bl (!k)) H)):=by
 intro pins s σ H x y v u Q I rx ry h
 obtain ⟨a,b,k,rfl,rfl,d,q⟩:=h
 cases rx
 cases ry
 cases d with
 | @lst xs ys e ha hb hl hi =>
  obtain ⟨ia,ra,pa,_⟩:=I.list ha
  obtain ⟨ib,rb,pb,_⟩:=I.list hb
  refine SeqAt.RcNeAt.lists (e:=e) pa.isList pb.isList (by rw [List.size_toArray,List.size_toArray,← ra.length,← rb.length]; exact hl) (by lia) (fun j h1 h2=>?_) _ _ _ _ ?_
  ·obtain ⟨x,ex,rx⟩:=items_at ra h1
   obtain ⟨y,ey,ry⟩:=items_at rb h2
   exact dc_at (hi j x y ex ey) I rx ry (by rw [in1_units]; lia)
  ·rw [List.size_toArray,← ra.length]
   exact ⟨.bl _,H,I,rfl,q⟩
 | @len xs ys ha hb hl =>
  obtain ⟨ia,ra,pa,_⟩:=I.list ha
  obtain ⟨ib,rb,pb,_⟩:=I.list hb
  exact SeqAt.RcNeAt.lists_lengths pa.isList pb.isList (by rw [List.size_toArray,List.size_toArray,← ra.length,← rb.length]; exact bne_iff_ne.mpr hl) (by lia) _ _ _ _ ⟨.bl _,H,I,rfl,q⟩
 | @tup xs ys e ha hb hi =>
  obtain ⟨ia,ra,pa,_⟩:=I.tuple ha
  obtain ⟨ib,rb,pb,_⟩:=I.tuple hb
  refine SeqAt.RcNeAt.tuples (e:=e) (show s.heap.IsTuple a ia.toArray from pa) (show s.heap.IsTuple b ib.toArray from pb) (by lia) (fun j h1 h2=>?_) _ _ _ _ ?_
  ·obtain ⟨x,ex,rx⟩:=items_at ra h1
   obtain ⟨y,ey,ry⟩:=items_at rb h2
   exact dc_at (hi j x y ex ey) I rx ry (by rw [in1_units]; lia)
  ·rw [List.size_toArray,List.size_toArray,← ra.length,← rb.length]
   exact ⟨.bl _,H,I,rfl,q⟩
end
section
variable {X:Cx} {pins:List (Addr×Obj)} {σ:St} {H:Hp} {s:Shared}
end
section
variable {X:Cx}
end
theorem pg_tupK {X:Cx} {K:PySem.W.Frag} {es:List Expr} {k:Nat} {t:TGs} {pos:Pos} (n:Nat) (hK:X.K=K) (hc:X.calm=true) (h:PGs X es t) (hn:(assignEach es X.env).length=n) (hst:(assignEach es X.env).findIdx? (·.1)=none) :
  PG X (.Tuple es k pos) (gTup K n t):=hK ▸ pg_tup hc h hn hst
theorem bt_all:bootBuiltins "all"=some (.builtin "all"):=by decide +kernel
theorem at0 {x:V} {xs:List V}:atI (x :: xs) 0=some x:=atI_nat (j:=0) rfl
end L2
set_option Elab.async false
set_option linter.all false
set_option maxRecDepth 100000
set_option maxHeartbeats 4100000
namespace L2
open PySem PySem.Spec PyProof.Rows
end L2
set_option Elab.async false
set_option linter.all false
set_option maxRecDepth 100000
set_option maxHeartbeats 4100000
namespace L2
open PySem PySem.Spec PyProof.Rows
section
variable {prog:Program} {w:World} {A:Around} {E:Value→Shared→Prop} {s:Shared}
theorem nextOf_tup {it t:Addr} {i:Nat} {zs:Array Value} {y:Value} {Q:Value→Shared→Prop} (g:s.heap.IsTupleIter it t i) (gt:s.heap.IsTuple t zs) (gy:zs[i]?=some y)
  (q:∀ h',h'.IsTupleIter it t (i + 1)→Heap.SameBut it s.heap h'→Q y { s with heap:=h' }):wpAny (model prog w) A (Builtin.SmallTypes.nextOf (.ref it)) Q E s:=by
 obtain ⟨o,e1,c1,d1⟩:=id g
 obtain ⟨oo,e2,_,m,d2⟩:=gt
 unfold Builtin.SmallTypes.nextOf
 refine wpAny_bind (wpAny_callSpecial?_slot (name:=Str.ofString "__next__") g.typeIs F.slot_tuple_iterator_next (wpAny_call_entry F.slot_tuple_iterator_next g.typeIs F.entry_tuple_iterator_next ?_ (F.args_tuple_iterator_next_1 _)))
 show wpAny _ _ (field (.ref it) 0 >>= _) _ _ s; refine wpAny_bind (wpAny_field e1 d1 (x:=.ref t) rfl ?_)
 show wpAny _ _ (if (Value.ref t == Value.none)=true then _ else _) _ _ s; rw [if_neg (show ¬ ((Value.ref t == Value.none)=true) from Bool.false_ne_true)]
 show wpAny _ _ (field (.ref it) 1 >>= _) _ _ s; refine wpAny_bind (wpAny_field e1 d1 (x:=.int i 0) rfl ?_)
 show wpAny _ _ (seqItems? (.ref t) >>= _) _ _ s; refine wpAny_bind (wpAny_seqItems e2 d2 ?_)
 simp only [Int.toNat_natCast,gy]
 refine wpAny_bind (wpAny_setField e1 d1 (by simp) (wpAny_pure ⟨y,rfl,wpAny_pure (q _ ⟨_,Heap.get?_update_self _ e1 (Obj.isFreed_of_fields (Obj.data_mapFields d1 _)),(Obj.cls_mapFields ..).trans c1,?_⟩ (Heap.SameBut.update ..))⟩))
 rw [Obj.data_mapFields d1]; simp [rawInt]
end
section
variable {prog:Program} {w:World} {A:Around} {E:Value→Shared→Prop} {s:Shared}
end
end L2
set_option Elab.async false
set_option linter.all false
set_option maxRecDepth 100000
set_option maxHeartbeats 4100000
namespace L2
open PySem PySem.Spec PyProof.Rows
theorem miss_keys:typeLookup (.type "list") "keys"=pure none:=am_miss_of_fast (by decide +kernel)
section
variable {prog:Program} {w:World} {A:Around} {E:Value→Shared→Prop} {s:Shared}
theorem keys_none {l:Addr} {ys:Array Value} {m:Nat} {sl:Array (Option Value)} {Q:Option Value→Shared→Prop} (hx:s.heap.get? l=some { cls:=.type "list",dict:=none,data:=.seq ys m,slots:=sl }) (hA:A.handled=none)
  (q:∀ h' tk,(∀ b ob,s.heap.get? b=some ob→h'.get? b=some ob)→Q none { s with heap:=h',toks:=tk }):wpAny (model prog w) A (getAttr? (.ref l) "keys") Q E s:=by
 obtain ⟨hp,g,d,tk,os⟩:=s
 have T:∀ tk2,(⟨hp,g,d,tk2,os⟩:Shared).TypeIs (.ref l) "list":=fun _=>⟨_,hx,rfl⟩
 have g1:=sub_AttributeError
 have g3:=F.slot_list_getattribute.lookup
 have g4:=F.slot_list_getattribute.bind (.ref l)
 have g5:=am_list_getattr_none
 have g6:=miss_keys
 unfold getAttr? getAttrBy? getAttrBy
 repeat (any_goals (first | assumption | exact T _ | ((with_reducible show wpAny _ _ (call (Value.builtin "list.__getattribute__") _ _) _ _ _); refine call_meets F.slot_list_getattribute (T _) am_entry_list_getattribute (F.args_list_getattribute_2 _ _) (meets_getattribute_miss_list l ys m sl "keys" _ miss_keys (by decide +kernel) (by decide +kernel)) ⟨hx,hA,fun h2 tk2 e new=>?_⟩) | wp_step))
 obtain ⟨t2,u2,he⟩:=new.there
 show wpAny _ _ (getattributeRaised _ _ _ _ _ _ _) _ _ _; unfold getattributeRaised
 repeat (any_goals (first | assumption | wp_step))
 exact q h2 tk2 new.keeps
end
theorem entry_dloop:entryFor table "dict.update.loop"=some Builtin.«dict.update.loop»:=entryFor_of_tree (by kernel_rfl)
theorem plain_dloop:plainId "dict.update.loop"=true:=by decide +kernel
section
variable {X:Cx} {pins:List (Addr×Obj)} {σ:St} {H H':Hp} {s:Shared} {a:Addr} {y v:V} {u r:Value} {A:Around} {E:Value→Shared→Prop}
theorem d_dictSet {Q:Unit→Shared→Prop} (hu:A.units < cLine) (I:Inv X pins σ H s) (g:DPut H a y v H') (ry:RelV y u) (rv:RelV v r) (h:∀ h' tk,Heap.SameBut a s.heap h'→Inv X pins σ H' { s with heap:=h',toks:=tk }→Q () { s with heap:=h',toks:=tk }) :
  wpAny (model X.prog X.w) A (dictSet a u r) Q E s:=by
 rcases g with ⟨kvs,k,e,ey,l,eH⟩ | ⟨kvs,k,b,e,ey,eb,l,eH⟩
 ·subst ey eH
  obtain ⟨z,hd,vs,rel,dd⟩:=dk_of I.hok e
  have hz:vs.length≤sizeLine:=by rw [← rel.length]; exact z
  have hl:(putK kvs k v).length≤sizeLine:=by have:=length_putK kvs k v; lia
  refine wpAny_dictSet_pairs (hsz:=hz) (kV_is ry) dd fun h' dd' hs=>h _ _ hs ?_
  exact d_write I (by rw [e]; exact True.intro) hs (let ⟨q,_,_,hq,_⟩:=dd'; ⟨q,hq⟩) (dk_new hl hd (rel.put k rv) dd')
 ·subst ey eH
  cases (show u=Value.ref b from ry)
  obtain ⟨z,hd,xs,rel,dd⟩:=dt_of I.hok e
  have hz:xs.length≤sizeLine:=by rw [← Paired.length rel]; exact z
  have hl:(putK kvs k v).length≤sizeLine:=by have:=length_putK kvs k v; lia
  refine wpAny_dictSet_heap (hsz:=hz) (show (tupleKind (mixKind X.prog X.w)).room A from hu) (key_of I.hok eb) dd fun h' dd' hs=>h _ _ hs ?_
  obtain ⟨q,es,ep,hq,h2,h3,h4,_,h5⟩:=dd'
  refine d_write I (by rw [e]; exact True.intro) hs ⟨q,hq⟩ ⟨hl,hd,_,(rel.put k eb rv).keeps fun c ys ec=>?_,q,es,ep,hq,h2,h3,h4,h5⟩
  rw [upd_ne (ne_of ec e (fun z=>nomatch z))]; exact ec
theorem pairs_loop {R:Result→Shared→Prop} {l d it:Addr} {ts:List Addr} {ys vs:List V} {Hs:Nat→Hp} (hA:A.handled=none) (hcalm:X.calm=true) (hu:A.in1.units < cLine) (hly:ys.length=ts.length) (hlv:vs.length=ts.length)
  (hl:∀ i,i≤ts.length→SqL X.K (Hs i) l (ts.map V.ref)) (ht:∀ i t y v,ts[i]?=some t→ys[i]?=some y→vs[i]?=some v→SqT X.K (Hs i) t [y,v]∧DPut (Hs i) d y v (Hs (i + 1)))
  (hf:∀ i,i≤ts.length→FpOk X pins (Hs i) it) (hne:it≠d):∀ (k i:Nat) (s:Shared),ts.length - i=k→i≤ts.length→Inv X pins σ (Hs i) s→s.heap.IsListIter it l i →
   (∀ h' tk,Inv X pins σ (Hs ts.length) { s with heap:=h',toks:=tk }→R (.ok (.ret .none)) { s with heap:=h',toks:=tk })→codeAny (model X.prog X.w) A (.builtin "dict.update.loop" ⟨[.ref d,.ref it,rawInt i,.none],[]⟩) R s:=by
 intro k
 induction k with
 | zero =>
  intro i s hk hi I st hR
  have e:i=ts.length:=by lia
  subst e
  obtain ⟨its,rv,p,hz⟩:=I.list (hl _ (Nat.le_refl _))
  obtain ⟨f0,f1,f2,f3,f4,f5⟩:=hf _ (Nat.le_refl _)
  refine codeAny_builtin entry_dloop ?_
  rw [Around.under_plainId plain_dloop _]
  show wpAny _ A.in1 (pyNext (.ref it) >>= _) _ _ s
  refine wpAny_bind (wpAny_pyNext_list_end hA st p.isList (by rw [List.getElem?_toArray]; exact List.getElem?_eq_none (by rw [← rv.length,List.length_map]; exact Nat.le_refl _)) fun h' eb=>?_)
  have I1:Inv X pins σ (Hs ts.length) { s with heap:=h',toks:=s.toks }:=I.turned (t':=s.toks) (fun b o hb q=>eb b o hb q) f0 f1 f3 f4 f5
  exact wpAny_bind (wpAny_pure (wpAny_pure (hR h' s.toks I1)))
 | succ k ih =>
  intro i s hk hi I st hR
  have hlt:i < ts.length:=by lia
  obtain ⟨its,rv,p,hz⟩:=I.list (hl i hi)
  obtain ⟨f0,f1,f2,f3,f4,f5⟩:=hf i hi
  obtain ⟨ux,hux,rux⟩:=rv.get (i:=i) (x:=V.ref ts[i]) (by rw [List.getElem?_map,List.getElem?_eq_getElem hlt]; rfl)
  cases rux
  have hyi:ys[i]?=some (ys[i]'(by lia)):=List.getElem?_eq_getElem (by lia)
  have hvi:vs[i]?=some (vs[i]'(by lia)):=List.getElem?_eq_getElem (by lia)
  obtain ⟨hT,hP⟩:=ht i _ _ _ (List.getElem?_eq_getElem hlt) hyi hvi
  refine codeAny_builtin entry_dloop ?_
  rw [Around.under_plainId plain_dloop _]
  show wpAny _ A.in1 (pyNext (.ref it) >>= _) _ _ s
  refine wpAny_bind (wpAny_pyNext_list_item st p.isList (x:=.ref ts[i]) (by simpa using hux) fun h' st' sb=>?_)
  have I1:Inv X pins σ (Hs i) { s with heap:=h' }:=I.turned (t':=s.toks) (fun b o hb q=>(sb.2 b hb).trans q) f0 f1 f3 f4 f5
  obtain ⟨its2,rv2,p2,hz2⟩:=I1.tuple hT
  obtain ⟨uy,uv,e2,ry,rvv⟩:=rv2.two
  subst e2
  obtain ⟨o2,g2,c2,n2,d2⟩:=p2
  refine wpAny_bind (wpAny_holding ?_)
  refine wpAny_bind (wpAny_tryCatch ?_)
  unfold Builtin.Dict.pairItems
  refine wpAny_bind (wpAny_typeOf (T:="tuple") ⟨o2,g2,c2⟩ ?_)
  rw [if_pos (by decide)]
  refine wpAny_bind (wpAny_seqItems g2 d2 (wpAny_pure ?_))
  show wpAny _ _ (holding [uy,uv] (dictSet d uy uv)) _ _ _
  refine wpAny_holding (d_dictSet hu I1 hP ry rvv fun h2 tk2 sb2 I2=>?_)
  refine wpAny_pure ⟨plainId_quiet plain_dloop _,?_⟩
  have:=ih (i + 1) { s with heap:=h2,toks:=tk2 } (by lia) hlt I2 (st'.at fun o q=>(sb2.2 it hne).trans q) fun h3 tk3 I3=>hR h3 tk3 I3
  exact this
end
noncomputable def foldP {κ:Type} [DecidableEq κ] (kvs more:List (κ×V)):List (κ×V):=more.foldl (fun acc kv=>putK acc kv.1 kv.2) kvs
theorem foldP_snoc {κ:Type} [DecidableEq κ] (kvs more:List (κ×V)) (k:κ) (v:V):foldP kvs (more ++ [(k,v)])=putK (foldP kvs more) k v:=by
 unfold foldP
 rw [List.foldl_append]; rfl
theorem foldP_len {κ:Type} [DecidableEq κ]:∀ (more kvs:List (κ×V)),(foldP kvs more).length≤kvs.length + more.length
 | [],kvs=>Nat.le_refl _
 | x :: more,kvs=>by
  have h:=foldP_len more (putK kvs x.1 x.2)
  have h2:=length_putK kvs x.1 x.2
  show (foldP (putK kvs x.1 x.2) more).length≤_
  rw [List.length_cons]
  lia
section
variable {X:Cx}
theorem dict_by {pins:List (Addr×Obj)} {s:Shared} {σ:St} {H:Hp} {Q:VK} {l:Addr} {ts:List Addr} {ys vs:List V} {Hs:Nat→Hp} {o0:HO} (hcalm:X.calm=true) (hu:X.A.units + 4 < cLine) (I:Inv X pins σ H s)
  (hl:SqL X.K H l (ts.map V.ref)) (hly:ys.length=ts.length) (hlv:vs.length=ts.length) (ht:∀ (i:Nat) t y v,ts[i]?=some t→ys[i]?=some y→vs[i]?=some v→SqT X.K H t [y,v])
  (h0:Hs 0=upd H s.heap.objs.size o0) (ho0:o0=.dK []∨o0=.dT []) (hs:∀ i,∃ o,Hs i=upd H s.heap.objs.size o)
  (hp:∀ (i:Nat) y v,ys[i]?=some y→vs[i]?=some v→DPut (Hs i) s.heap.objs.size y v (Hs (i + 1))) (q:Q (.ref s.heap.objs.size) (Hs ts.length)) :
  wpAny (model X.prog X.w) X.A (call (.type "dict") [.ref l]) (EP X pins σ Q) X.xe s:=by
 have hH:=I.ok.hd hcalm
 have fr:=I.fresh
 have sm:∀ i,Same H (Hs i):=fun i=>by obtain ⟨o,e⟩:=hs i; rw [e]; exact Same.new fr
 refine callType_codes (Q₁:=fun obj s₁=>obj=.ref s.heap.objs.size∧s₁={ s with heap:=s.heap.push { cls:=.type "dict",data:=.dict #[] } }) F.kt_called_dict (F.kt_typeCall_dict_1 _) F.entry_dict_init (kt_code_dict_new _ ⟨rfl,rfl⟩) ?_
 rintro obj s₁ ⟨rfl,rfl⟩
 have new:ObjOk X.prog X.w (upd H s.heap.objs.size o0) (s.heap.push { cls:=.type "dict",data:=.dict #[] }) s.heap.objs.size o0:=by
  rcases ho0 with z | z
  ·rw [z]; exact dk_empty s.heap I.big
  ·rw [z]; exact dt_empty s.heap I.big
 have I0:Inv X pins σ (Hs 0) { s with heap:=s.heap.push { cls:=.type "dict",data:=.dict #[] } }:=by
  rw [h0]
  exact I.laid (a:=s.heap.objs.size) (t':=s.toks) (fun _ _ q=>Heap.get?_push_of_some _ q) (Nat.le_refl _) new
 have T0:Shared.TypeIs { s with heap:=s.heap.push { cls:=.type "dict",data:=.dict #[] } } (.ref s.heap.objs.size) "dict":=⟨_,Heap.get?_push_size _ rfl,rfl⟩
 obtain ⟨its,rv,pl,hz⟩:=I0.list ((sm 0).seq hl)
 obtain ⟨ol,nl,gl,cl,dl,al⟩:=id pl
 refine ⟨T0,F.args_dict_init_2 _ _,?_⟩
 unfold Builtin.«dict.__init__»; refine wpAny_bind ?_
 unfold Builtin.Dict.selfAndRest; refine wpAny_bind (wpAny_notOrdered_dict T0 ?_)
 show wpAny _ _ (pure (s.heap.objs.size,[Value.ref l])) _ _ _; refine wpAny_pure ?_
 show wpAny _ _ (Builtin.Dict.updateFrom "dict.__init__" s.heap.objs.size (.ref l) [] .none) _ _ _
 unfold Builtin.Dict.updateFrom; refine wpAny_bind (wpAny_typeOf pl.isList.typeIs ?_)
 rw [if_pos (by decide)]
 obtain ⟨cc,dd,da,sl⟩:=ol
 simp only at cl dl al
 subst cl dl al
 refine wpAny_bind (keys_none gl hH fun h1 tk1 k1=>?_)
 have I1:Inv X pins σ (Hs 0) { s with heap:=h1,toks:=tk1 }:=I0.kept (t':=tk1) k1
 rw [if_pos (by rfl)]
 refine wpAny_bind (wpAny_rule ?_)
 obtain ⟨its2,rv2,pl2,hz2⟩:=I1.list ((sm 0).seq hl)
 refine wpAny_bind (wpAny_pyIter_list pl2.isList ?_)
 have I2:Inv X pins σ (Hs 0) { s with heap:=h1.push { cls:=.type "list_iterator",data:=.fields #[.ref l,.int 0 0] },toks:=tk1 }:=I1.kept (t':=tk1) fun b o e=>Heap.get?_push_of_some _ e
 have dlt:s.heap.objs.size < h1.objs.size:=Heap.lt_size (k1 _ _ (Heap.get?_push_size _ rfl))
 refine wpAny_pure ⟨plainId_quiet plain_dloop _,?_⟩
 have hne:h1.objs.size≠s.heap.objs.size:=Nat.ne_of_gt dlt
 refine pairs_loop (A:=X.A.in1) (Hs:=Hs) (l:=l) (it:=h1.objs.size) (σ:=σ) (pins:=pins) (ys:=ys) (vs:=vs) (ts:=ts) hH hcalm (by simp only [in1_units]; lia) hly hlv (fun i _=>(sm i).seq hl) (fun i t y v e1 e2 e3=>⟨(sm i).seqT (ht i t y v e1 e2 e3),hp i y v e2 e3⟩)
  (fun i _=>I1.fpOk (Nat.le_refl _) ?_) hne ts.length 0 _ (by lia) (Nat.zero_le _) I2 ⟨_,Heap.get?_push_size _ rfl,rfl,rfl⟩ fun h3 tk3 I3=>?_
 ·obtain ⟨o,e⟩:=hs i
  rw [e,upd_ne hne]
  exact I.hok.fresh (Nat.le_of_lt dlt)
 ·exact ⟨rfl,.ref s.heap.objs.size,_,I3,rfl,q⟩
theorem call_dict_pairsK (hcalm:X.calm=true) (hu:X.A.units + 4 < cLine):CallR X (.type "dict") (fun xs H Q=>Ex_2_5 (fun (l:Addr) (ps:List (Addr×Key×V))=>xs=[.ref l]) (fun l ps=>SqL X.K H l (ps.map fun x=>V.ref x.1)) (fun l ps=>ps.length≤1000) (fun l ps=>(∀ x∈ps,SqT X.K H x.1 [kV x.2.1,x.2.2])) (fun l ps=>∀ p,H p=none→Q (.ref p) (upd H p (.dK (foldP [] (ps.map (·.2))))))):=by
 intro pins s σ H xs us Q I r h
 obtain ⟨l,ps,rfl,hl,hn,ht,q⟩:=h
 obtain ⟨u,rfl,ru⟩:=vals1 r
 cases ru
 refine dict_by (Hs:=fun i=>upd H s.heap.objs.size (.dK (foldP [] ((ps.take i).map (·.2))))) (ts:=ps.map (·.1)) (ys:=ps.map fun x=>kV x.2.1) (vs:=ps.map (·.2.2)) hcalm hu I (by rw [List.map_map]; exact hl) (by simp) (by simp) (fun i t y v e1 e2 e3=>?_) rfl (.inl rfl) (fun i=>⟨_,rfl⟩) (fun i y v e2 e3=>?_) ?_
 ·rw [List.getElem?_map] at e1 e2 e3
  cases e:ps[i]? with
  | none=>rw [e] at e1; cases e1
  | some x =>
   rw [e] at e1 e2 e3
   cases e1
   cases e2
   cases e3
   exact ht x (List.mem_of_getElem? e)
 ·rw [List.getElem?_map] at e2 e3
  cases e:ps[i]? with
  | none=>rw [e] at e2; cases e2
  | some x =>
   rw [e] at e2 e3
   cases e2
   cases e3
   have hlt:(foldP [] ((ps.take i).map (·.2))).length < sizeLine:=by
    have h1:=foldP_len ((ps.take i).map (·.2)) ([]:List (Key×V))
    rw [List.length_map,List.length_take,List.length_nil] at h1
    exact small1000 (by lia)
   have g:=DPut.k (H:=upd H s.heap.objs.size (.dK (foldP [] ((ps.take i).map (·.2))))) (a:=s.heap.objs.size) (k:=x.2.1) (v:=x.2.2) upd_same hlt
   rw [upd_upd,← foldP_snoc] at g
   have e5:(ps.take (i + 1)).map (·.2)=(ps.take i).map (·.2) ++ [(x.2.1,x.2.2)]:=by rw [List.take_add_one,e,List.map_append]; rfl
   show DPut _ _ _ _ (upd H s.heap.objs.size (.dK (foldP [] ((ps.take (i + 1)).map (·.2)))))
   rw [e5]
   exact g
 ·show Q _ (upd H s.heap.objs.size (.dK (foldP [] ((ps.take (ps.map (·.1)).length).map (·.2)))))
  rw [List.length_map,List.take_of_length_le (Nat.le_refl _)]
  exact q _ I.fresh
theorem call_dict_pairsT (hcalm:X.calm=true) (hu:X.A.units + 4 < cLine):CallR X (.type "dict") (fun xs H Q=>Ex_2_5 (fun (l:Addr) (ps:List (Addr×Addr×List Key×V))=>xs=[.ref l]) (fun l ps=>SqL X.K H l (ps.map fun x=>V.ref x.1)) (fun l ps=>ps.length≤1000) (fun l ps=>(∀ x∈ps,SqT X.K H x.1 [.ref x.2.1,x.2.2.2]∧H x.2.1=some (.tup (x.2.2.1.map kV)))) (fun l ps=>∀ p,H p=none→Q (.ref p) (upd H p (.dT (foldP [] (ps.map (·.2.2))))))):=by
 intro pins s σ H xs us Q I r h
 obtain ⟨l,ps,rfl,hl,hn,ht,q⟩:=h
 obtain ⟨u,rfl,ru⟩:=vals1 r
 cases ru
 refine dict_by (Hs:=fun i=>upd H s.heap.objs.size (.dT (foldP [] ((ps.take i).map (·.2.2))))) (ts:=ps.map (·.1)) (ys:=ps.map fun x=>V.ref x.2.1) (vs:=ps.map (·.2.2.2)) hcalm hu I (by rw [List.map_map]; exact hl) (by simp) (by simp) (fun i t y v e1 e2 e3=>?_) rfl (.inr rfl) (fun i=>⟨_,rfl⟩) (fun i y v e2 e3=>?_) ?_
 ·rw [List.getElem?_map] at e1 e2 e3
  cases e:ps[i]? with
  | none=>rw [e] at e1; cases e1
  | some x =>
   rw [e] at e1 e2 e3
   cases e1
   cases e2
   cases e3
   exact (ht x (List.mem_of_getElem? e)).1
 ·rw [List.getElem?_map] at e2 e3
  cases e:ps[i]? with
  | none=>rw [e] at e2; cases e2
  | some x =>
   rw [e] at e2 e3
   cases e2
   cases e3
   have hb:=(ht x (List.mem_of_getElem? e)).2
   have hlt:(foldP [] ((ps.take i).map (·.2.2))).length < sizeLine:=by
    have h1:=foldP_len ((ps.take i).map (·.2.2)) ([]:List (List Key×V))
    rw [List.length_map,List.length_take,List.length_nil] at h1
    exact small1000 (by lia)
   have g:=DPut.t (H:=upd H s.heap.objs.size (.dT (foldP [] ((ps.take i).map (·.2.2))))) (a:=s.heap.objs.size) (b:=x.2.1) (k:=x.2.2.1) (v:=x.2.2.2) upd_same (by rw [upd_ne (ne_of_none hb I.fresh)]; exact hb) hlt
   rw [upd_upd,← foldP_snoc] at g
   have e5:(ps.take (i + 1)).map (·.2.2)=(ps.take i).map (·.2.2) ++ [(x.2.2.1,x.2.2.2)]:=by rw [List.take_add_one,e,List.map_append]; rfl
   show DPut _ _ _ _ (upd H s.heap.objs.size (.dT (foldP [] ((ps.take (i + 1)).map (·.2.2)))))
   rw [e5]
   exact g
 ·show Q _ (upd H s.heap.objs.size (.dT (foldP [] ((ps.take (ps.map (·.1)).length).map (·.2.2)))))
  rw [List.length_map,List.take_of_length_le (Nat.le_refl _)]
  exact q _ I.fresh
end
end L2
set_option Elab.async false
set_option linter.all false
set_option maxRecDepth 100000
set_option maxHeartbeats 4100000
namespace L2
open PySem PySem.Spec PyProof.Rows PySem.W
structure Ord (β:Type) where
 lt:β→β→Bool
 irr:∀ a,lt a a=false
 trans:∀ a b c,lt a b=true→lt b c=true→lt a c=true
 tri:∀ a b,lt a b=false→lt b a=false→a=b
namespace Ord
variable {β:Type} (O:Ord β)
noncomputable def le (a b:β):Prop:=O.lt b a=false
theorem le_refl (a:β):O.le a a:=O.irr a
theorem le_of_lt {a b:β} (h:O.lt a b=true):O.le a b:=by
 unfold le
 cases e:O.lt b a with
 | false=>rfl
 | true=>have:=O.trans _ _ _ h e; rw [O.irr] at this; cases this
theorem lt_or {a b:β} (h:O.le a b):O.lt a b=true∨a=b:=by
 cases e:O.lt a b with
 | true=>exact .inl rfl
 | false=>exact .inr (O.tri a b e h)
theorem le_trans {a b c:β} (h:O.le a b) (g:O.le b c):O.le a c:=by
 rcases O.lt_or h with h | rfl
 ·rcases O.lt_or g with g | rfl
  ·exact O.le_of_lt (O.trans _ _ _ h g)
  ·exact O.le_of_lt h
 ·exact g
theorem lt_le {a b c:β} (h:O.lt a b=true) (g:O.le b c):O.lt a c=true:=by
 rcases O.lt_or g with g | rfl
 ·exact O.trans _ _ _ h g
 ·exact h
end Ord
noncomputable def Asks {α:Type} (n:Nat) (c:Nat→Nat→Bool) (P:α→Prop):KasT α→Prop
 | .ret a=>P a
 | .ask i j k=>i < n∧j < n∧Asks n c P (k (c i j))
theorem Asks.bind {α β:Type} {n:Nat} {c:Nat→Nat→Bool} {P:α→Prop} {R:β→Prop} {f:α→KasT β}:∀ {t:KasT α},Asks n c P t→(∀ a,P a→Asks n c R (f a))→Asks n c R (t.bind f)
 | .ret a,h,g=>g a h
 | .ask i j k,h,g=>⟨h.1,h.2.1,Asks.bind h.2.2 g⟩
theorem Asks.mono {α:Type} {n:Nat} {c:Nat→Nat→Bool} {P R:α→Prop}:∀ {t:KasT α},Asks n c P t→(∀ a,P a→R a)→Asks n c R t
 | .ret a,h,g=>g a h
 | .ask i j k,h,g=>⟨h.1,h.2.1,Asks.mono h.2.2 g⟩
section
variable {β:Type} (O:Ord β) (key:Nat→β) (n:Nat)
structure Arr (p:Array Nat):Prop where
 size:p.size=n
 lt:∀ i,p.getD i 0 < n
 perm:p.toList.Perm (List.range n)
noncomputable abbrev KY (p:Array Nat) (i:Nat):β:=key (p.getD i 0)
noncomputable def UpTo (p:Array Nat) (m:Nat):Prop:=∀ i j,i≤j→j < m→O.le (KY key p i) (KY key p j)
noncomputable def DownTo (p:Array Nat) (m:Nat):Prop:=∀ i j,i≤j→j < m→O.le (KY key p j) (KY key p i)
noncomputable abbrev cm (i j:Nat):Bool:=O.lt (key i) (key j)
variable {O key n}
theorem getD_eq (p:Array Nat) (i:Nat):p.getD i 0=(p[i]?).getD 0:=by
 by_cases h:i < p.size
 ·simp [Array.getD,h]
 ·simp [Array.getD,h]
theorem Arr.of (h0:0 < n) {p q:Array Nat} (a:Arr n p) (h:q.Perm p):Arr n q:=by
 have hs:q.size=n:=(h.size_eq).trans a.size
 have hp:q.toList.Perm (List.range n):=(Array.perm_iff_toList_perm.mp h).trans a.perm
 refine ⟨hs,fun i=>?_,hp⟩
 rw [getD_eq]
 cases e:q[i]? with
 | none=>exact h0
 | some x =>
  have hm:x∈q.toList:=by rw [← Array.getElem?_toList] at e; exact List.mem_of_getElem? e
  exact List.mem_range.mp (hp.mem_iff.mp hm)
theorem adj_up {p:Array Nat} {m:Nat} (h:∀ x,1≤x→x < m→O.le (KY key p (x - 1)) (KY key p x)):UpTo O key p m:=by
 intro i j hij hj
 obtain ⟨d,rfl⟩:∃ d,j=i + d:=⟨j - i,by lia⟩
 induction d with
 | zero=>exact O.le_refl _
 | succ d ih=>exact O.le_trans (ih (by lia) (by lia)) (h (i + (d + 1)) (by lia) hj)
theorem asks_asc {p:Array Nat} (a:Arr n p):∀ (f m:Nat),1≤m→m + f≤n→Asks n (cm O key) (fun r=>m≤r∧r≤m + f∧(∀ x,m≤x→x < r→O.le (KY key p (x - 1)) (KY key p x))∧(r < m + f→O.lt (KY key p r) (KY key p (r - 1))=true)) (kas_asc p f m)
 | 0,m,_,_=>⟨Nat.le_refl _,Nat.le_refl _,fun x h1 h2=>by lia,fun h=>by lia⟩
 | f + 1,m,h1,hn=>by
  refine ⟨a.lt m,a.lt (m - 1),?_⟩
  by_cases c:O.lt (KY key p m) (KY key p (m - 1))=true
  ·show Asks n _ _ (if O.lt (KY key p m) (KY key p (m - 1))=true then _ else _)
   rw [if_pos c]
   exact ⟨Nat.le_refl _,by lia,fun x h1 h2=>by lia,fun _=>c⟩
  ·show Asks n _ _ (if O.lt (KY key p m) (KY key p (m - 1))=true then _ else _)
   rw [if_neg c]
   refine (asks_asc a f (m + 1) (by lia) (by lia)).mono fun r hr=>?_
   obtain ⟨g1,g2,g3,g4⟩:=hr
   refine ⟨by lia,by lia,fun x hx1 hx2=>?_,fun h=>g4 (by lia)⟩
   by_cases e:x=m
   ·subst e; exact Bool.eq_false_iff.mpr c
   ·exact g3 x (by lia) hx2
theorem KY_rev {p:Array Nat} {i j:Nat} (hj:j≤p.size) (k:Nat):KY key (kas_rev p i j) k=if i≤k∧k < j then KY key p (i + j - 1 - k) else KY key p k:=by
 unfold KY kas_rev
 rw [getD_eq,getElem?_mirror_all hj]
 split
 ·rw [getD_eq]
 ·rw [getD_eq]
theorem KY_rev_equal {p:Array Nat} {i j:Nat} (hj:j≤p.size) (heq:∀ k,i≤k→k < j→KY key p k=KY key p (j - 1)) (k:Nat):KY key (kas_rev p i j) k=KY key p k:=by
 rw [KY_rev hj]
 split
 ·rename_i h
  rw [heq k h.1 h.2,heq (i + j - 1 - k) (by lia) (by lia)]
 ·rfl
theorem rev_arr (h0:0 < n) {p:Array Nat} (a:Arr n p) (i j:Nat):Arr n (kas_rev p i j):=a.of h0 (mirror_perm p i j _)
theorem asks_desc (h0:0 < n):∀ (f:Nat) (p:Array Nat) (m q:Nat),Arr n p→q + 1≤m→m + f≤n→DownTo O key p m→(∀ x,m - (q + 1)≤x→x < m→KY key p x=KY key p (m - 1)) →
  Asks n (cm O key) (fun r=>Arr n r.1∧m≤r.2.1∧r.2.1≤m + f∧r.2.2 + 1≤r.2.1∧DownTo O key r.1 r.2.1∧∀ x,r.2.1 - (r.2.2 + 1)≤x→x < r.2.1→KY key r.1 x=KY key r.1 (r.2.1 - 1)) (kas_desc f p m q)
 | 0,p,m,q,a,hq,hn,hd,he=>⟨a,Nat.le_refl _,Nat.le_refl _,hq,hd,he⟩
 | f + 1,p,m,q,a,hq,hn,hd,he=>by
  have more:∀ {p':Array Nat},(∀ k,KY key p' k=KY key p k)→O.le (KY key p m) (KY key p (m - 1))→DownTo O key p' (m + 1):=fun {p'} hk hl i j hij hj=>by
   rw [hk,hk]
   by_cases e:j=m
   ·subst e
    by_cases e2:i=j
    ·subst e2; exact O.le_refl _
    ·exact O.le_trans hl (hd i (j - 1) (by lia) (by lia))
   ·exact hd i j hij (by lia)
  refine ⟨a.lt m,a.lt (m - 1),?_⟩
  show Asks n _ _ (if O.lt (KY key p m) (KY key p (m - 1))=true then _ else _)
  by_cases c:O.lt (KY key p m) (KY key p (m - 1))=true
  ·rw [if_pos c]
   by_cases c2:q > 0
   ·rw [if_pos c2]
    have hk:∀ k,KY key (kas_rev p (m - (q + 1)) m) k=KY key p k:=fun k=>KY_rev_equal (by rw [a.size]; lia) he k
    refine (asks_desc h0 f _ (m + 1) 0 (rev_arr h0 a _ _) (by lia) (by lia) (more hk (O.le_of_lt c)) fun x h1 h2=>?_).mono fun r hr=>⟨hr.1,by lia,by lia,hr.2.2.2.1,hr.2.2.2.2⟩
    have:x=m:=by lia
    subst this; rfl
   ·rw [if_neg c2]
    refine (asks_desc h0 f _ (m + 1) 0 a (by lia) (by lia) (more (fun _=>rfl) (O.le_of_lt c)) fun x h1 h2=>?_).mono fun r hr=>⟨hr.1,by lia,by lia,hr.2.2.2.1,hr.2.2.2.2⟩
    have:x=m:=by lia
    subst this; rfl
  ·rw [if_neg c]
   refine ⟨a.lt (m - 1),a.lt m,?_⟩
   show Asks n _ _ (if O.lt (KY key p (m - 1)) (KY key p m)=true then _ else _)
   by_cases c2:O.lt (KY key p (m - 1)) (KY key p m)=true
   ·rw [if_pos c2]
    exact ⟨a,Nat.le_refl _,(by show m≤m + (f + 1); lia),hq,hd,he⟩
   ·rw [if_neg c2]
    have e:KY key p m=KY key p (m - 1):=O.tri _ _ (Bool.eq_false_iff.mpr c) (Bool.eq_false_iff.mpr c2)
    refine (asks_desc h0 f p (m + 1) (q + 1) a (by lia) (by lia) (more (fun _=>rfl) (by rw [e]; exact O.le_refl _)) fun x h1 h2=>?_).mono fun r hr=>⟨hr.1,by lia,by lia,hr.2.2.2.1,hr.2.2.2.2⟩
    show _=KY key p m
    by_cases ex:x=m
    ·subst ex; rfl
    ·rw [e]; exact he x (by lia) (by lia)
theorem asks_tail3 (h0:0 < n) {p:Array Nat} {m:Nat} (a:Arr n p) (h1:1≤m) (hm:m≤n) (hd:DownTo O key p m):Asks n (cm O key) (fun r=>Arr n r.2∧1≤r.1∧r.1≤n∧UpTo O key r.2 r.1) (kas_tail3 m n p):=by
 have a2:=rev_arr h0 a 0 m
 refine (asks_asc a2 (n - m) m h1 (by lia)).bind fun r hr=>?_
 obtain ⟨g1,g2,g3,g4⟩:=hr
 refine ⟨a2,by lia,by lia,adj_up fun x hx1 hx2=>?_⟩
 by_cases c:x < m
 ·rw [KY_rev (by rw [a.size]; exact hm),KY_rev (by rw [a.size]; exact hm),if_pos (by lia),if_pos (by lia)]
  exact hd _ _ (by lia) (by lia)
 ·exact g3 x (by lia) hx2
theorem asks_descPart (h0:0 < n) {p:Array Nat} {m:Nat} (a:Arr n p) (h1:1≤m) (hm:m < n) (hd:DownTo O key p m) (hl:O.lt (KY key p m) (KY key p (m - 1))=true):Asks n (cm O key) (fun r=>Arr n r.2∧1≤r.1∧r.1≤n∧UpTo O key r.2 r.1) (kas_descPart m n p):=by
 have hd1:DownTo O key p (m + 1):=fun i j hij hj=>by
  by_cases e:j=m
  ·subst e
   by_cases e2:i=j
   ·subst e2; exact O.le_refl _
   ·exact O.le_trans (O.le_of_lt hl) (hd i (j - 1) (by lia) (by lia))
  ·exact hd i j hij (by lia)
 refine (asks_desc h0 (n - (m + 1)) p (m + 1) 0 a (by lia) (by lia) hd1 fun x h2 h3=>?_).bind fun r hr=>?_
 ·have:x=m:=by lia
  subst this; rfl
 ·obtain ⟨g1,g2,g3,g4,g5,g6⟩:=hr
  by_cases c:r.2.2 > 0
  ·rw [if_pos c]
   have hk:∀ k,KY key (kas_rev r.1 (r.2.1 - (r.2.2 + 1)) r.2.1) k=KY key r.1 k:=fun k=>KY_rev_equal (by rw [g1.size]; lia) g6 k
   refine asks_tail3 h0 (rev_arr h0 g1 _ _) (by lia) (by lia) fun i j hij hj=>?_
   rw [hk,hk]
   exact g5 i j hij hj
  ·rw [if_neg c]
   exact asks_tail3 h0 g1 (by lia) (by lia) g5
theorem asks_count (h0:0 < n) {p:Array Nat} (a:Arr n p):Asks n (cm O key) (fun r=>Arr n r.2∧1≤r.1∧r.1≤n∧UpTo O key r.2 r.1) (kas_count n p):=by
 refine (asks_asc a (n - 1) 1 (Nat.le_refl _) (by lia)).bind fun r hr=>?_
 obtain ⟨g1,g2,g3,g4⟩:=hr
 have up:UpTo O key p r:=adj_up fun x hx1 hx2=>g3 x hx1 hx2
 by_cases c:(r == n)=true
 ·rw [if_pos c]
  exact ⟨a,g1,by lia,up⟩
 ·rw [if_neg c]
  have hrn:r≠n:=fun e=>c (by rw [e]; exact beq_self_eq_true n)
  have hl:=g4 (by lia)
  by_cases c2:r > 1
  ·rw [if_pos c2]
   refine ⟨a.lt 0,a.lt (r - 1),?_⟩
   show Asks n _ _ (if O.lt (KY key p 0) (KY key p (r - 1))=true then _ else _)
   by_cases c3:O.lt (KY key p 0) (KY key p (r - 1))=true
   ·rw [if_pos c3]
    exact ⟨a,g1,by lia,up⟩
   ·rw [if_neg c3]
    have eqs:∀ k,k < r→KY key p k=KY key p 0:=fun k hk=>by
     have u1:=up 0 k (by lia) hk
     have u2:=up k (r - 1) (by lia) (by lia)
     refine O.tri _ _ u1 ?_
     cases e:O.lt (KY key p 0) (KY key p k) with
     | false=>rfl
     | true=>exact absurd (O.lt_le e u2) c3
    have hk:∀ k,KY key (kas_rev p 0 r) k=KY key p k:=fun k=>KY_rev_equal (by rw [a.size]; lia) (fun x _ hx=>by rw [eqs x hx,eqs (r - 1) (by lia)]) k
    refine asks_descPart h0 (rev_arr h0 a _ _) g1 (by lia) (fun i j hij hj=>?_) ?_
    ·rw [hk,hk,eqs i (by lia),eqs j hj]; exact O.le_refl _
    ·rw [hk,hk]; exact hl
  ·rw [if_neg c2]
   have e1:r=1:=by lia
   subst e1
   refine asks_descPart h0 a (Nat.le_refl _) (by lia) (fun i j hij hj=>?_) hl
   have:i=j:=by lia
   subst this; exact O.le_refl _
theorem asks_place {p:Array Nat} (a:Arr n p) {k:Nat} (hk:k < n) (up:UpTo O key p k):∀ (f l r:Nat),l≤r→r≤k→r - l≤f→(∀ x,x < l→O.le (KY key p x) (KY key p k))→(∀ x,r≤x→x < k→O.lt (KY key p k) (KY key p x)=true) →
  Asks n (cm O key) (fun m=>m≤k∧(∀ x,x < m→O.le (KY key p x) (KY key p k))∧∀ x,m≤x→x < k→O.lt (KY key p k) (KY key p x)=true) (kas_place p k f l r)
 | 0,l,r,h1,h2,h3,h4,h5=>⟨by lia,h4,fun x hx1 hx2=>h5 x (by lia) hx2⟩
 | f + 1,l,r,h1,h2,h3,h4,h5=>by
  show Asks n _ _ (if l ≥ r then _ else _)
  by_cases c:l ≥ r
  ·rw [if_pos c]
   exact ⟨by lia,h4,fun x hx1 hx2=>h5 x (by lia) hx2⟩
  ·rw [if_neg c]
   refine ⟨a.lt k,a.lt ((l + r) / 2),?_⟩
   show Asks n _ _ (if O.lt (KY key p k) (KY key p ((l + r) / 2))=true then _ else _)
   by_cases c2:O.lt (KY key p k) (KY key p ((l + r) / 2))=true
   ·rw [if_pos c2]
    refine asks_place a hk up f l ((l + r) / 2) (by lia) (by lia) (by lia) h4 fun x hx1 hx2=>?_
    exact O.lt_le c2 (up _ _ hx1 hx2)
   ·rw [if_neg c2]
    refine asks_place a hk up f ((l + r) / 2 + 1) r (by lia) h2 (by lia) (fun x hx=>?_) h5
    exact O.le_trans (up x ((l + r) / 2) (by lia) (by lia)) (Bool.eq_false_iff.mpr c2)
theorem KY_bubble {p:Array Nat} {src d:Nat} (hs:src < p.size) (hd:d≤src) (k:Nat):KY key (bubble p src d) k=if k=src - d then KY key p src else if src - d < k∧k≤src then KY key p (k - 1) else KY key p k:=by
 have e:KY key (bubble p src d) k=key ((if k=src - d then p[src]? else if src - d < k∧k≤src then p[k - 1]? else p[k]?).getD 0):=by
  unfold KY
  rw [getD_eq,getElem?_bubble hs d hd]
 rw [e]
 by_cases c1:k=src - d
 ·rw [if_pos c1,if_pos c1,← getD_eq]
 ·rw [if_neg c1,if_neg c1]
  by_cases c2:src - d < k∧k≤src
  ·rw [if_pos c2,if_pos c2,← getD_eq]
  ·rw [if_neg c2,if_neg c2,← getD_eq]
theorem asks_bin (h0:0 < n):∀ (f:Nat) (p:Array Nat) (k:Nat),Arr n p→k + f=n→UpTo O key p k→Asks n (cm O key) (fun r=>Arr n r∧UpTo O key r n) (kas_bin f p k)
 | 0,p,k,a,hk,up=>by
  have e:k=n:=by lia
  subst e
  exact ⟨a,up⟩
 | f + 1,p,k,a,hk,up=>by
  refine (asks_place a (by lia) up k 0 k (Nat.zero_le _) (Nat.le_refl _) (by lia) (fun x hx=>by lia) fun x h1 h2=>by lia).bind fun m hm=>?_
  obtain ⟨g1,g2,g3⟩:=hm
  have hb:∀ x,KY key (bubble p k (k - m)) x=if x=m then KY key p k else if m < x∧x≤k then KY key p (x - 1) else KY key p x:=fun x=>by
   rw [KY_bubble (by rw [a.size]; lia) (by lia)]
   have e:k - (k - m)=m:=by lia
   rw [e]
  refine asks_bin h0 f _ (k + 1) (a.of h0 (bubble_perm p k _)) (by lia) fun i j hij hj=>?_
  rw [hb,hb]
  by_cases c1:i=m
  ·rw [if_pos c1]
   by_cases c2:j=m
   ·rw [if_pos c2]; exact O.le_refl _
   ·rw [if_neg c2,if_pos (by lia)]
    exact O.le_of_lt (g3 (j - 1) (by lia) (by lia))
  ·rw [if_neg c1]
   by_cases c3:m < i∧i≤k
   ·rw [if_pos c3,if_neg (by lia),if_pos (by lia)]
    exact up _ _ (by lia) (by lia)
   ·rw [if_neg c3]
    by_cases c2:j=m
    ·rw [if_pos c2]
     exact g2 i (by lia)
    ·rw [if_neg c2]
     by_cases c4:m < j∧j≤k
     ·rw [if_pos c4]
      exact up _ _ (by lia) (by lia)
     ·rw [if_neg c4]
      exact up _ _ hij (by lia)
theorem asks_sort (h0:0 < n):Asks n (cm O key) (fun p=>Arr n p∧UpTo O key p n) (kas_sort n):=by
 have a:Arr n (List.toArray (List.range n)):=by
  refine ⟨by simp,fun i=>?_,by rw [List.toList_toArray]⟩
  rw [getD_eq,List.getElem?_toArray]
  cases e:(List.range n)[i]? with
  | none=>exact h0
  | some x=>exact List.mem_range.mp (List.mem_of_getElem? e)
 refine (asks_count h0 a).bind fun r hr=>?_
 obtain ⟨g1,g2,g3,g4⟩:=hr
 by_cases c:r.1 < n
 ·rw [if_pos c]
  have e:max r.1 1=r.1:=by lia
  rw [e]
  exact asks_bin h0 _ _ _ g1 (by lia) g4
 ·rw [if_neg c]
  have e:r.1=n:=by lia
  rw [e] at g4
  exact ⟨g1,g4⟩
end
theorem asks_wp {α:Type} {n:Nat} {c:Nat→Nat→Bool} {P:α→Prop} {cmp:Nat→Nat→(Bool→Shared→Prop)→Shared→Prop} {J:Shared→Prop} {G:α→Shared→Prop}
  (hc:∀ i j C s,i < n→j < n→J s→(∀ s',J s'→C (c i j) s')→cmp i j C s) (hG:∀ a s,P a→J s→G a s):∀ (t:KasT α) (s:Shared),Asks n c P t→J s→t.kasWp cmp G s
 | .ret a,s,h,j=>hG a s h j
 | .ask i j k,s,h,js=>hc i j _ s h.1 h.2.1 js fun s' js'=>asks_wp hc hG (k (c i j)) s' h.2.2 js'
end L2
set_option Elab.async false
set_option linter.all false
set_option maxRecDepth 100000
set_option maxHeartbeats 4100000
namespace L2
open PySem PySem.Spec PyProof.Rows PySem.W
noncomputable def kLt:Key→Key→Bool
 | .inl a,.inl b=>decide (a < b)
 | .inr a,.inr b=>decide (a.cps.toList < b.cps.toList)
 | .inl _,.inr _=>true
 | .inr _,.inl _=>false
theorem kLt_irr:∀ a,kLt a a=false
 | .inl a=>by simp [kLt]
 | .inr a=>by show decide _=false; rw [decide_eq_false_iff_not]; exact List.lt_irrefl _
theorem kLt_trans:∀ a b c,kLt a b=true→kLt b c=true→kLt a c=true
 | .inl a,.inl b,.inl c,h,g=>by simp only [kLt,decide_eq_true_eq] at *; lia
 | .inl a,.inl b,.inr c,h,g=>rfl
 | .inl a,.inr b,.inr c,h,g=>rfl
 | .inr a,.inr b,.inr c,h,g=>by simp only [kLt,decide_eq_true_eq] at *; exact List.lt_trans h g
 | .inr a,.inl b,_,h,g=>by cases h
 | .inl a,.inr b,.inl c,h,g=>by cases g
 | .inr a,.inr b,.inl c,h,g=>by cases g
theorem kLt_tri:∀ a b,kLt a b=false→kLt b a=false→a=b
 | .inl a,.inl b,h,g=>by simp only [kLt,decide_eq_false_iff_not] at *; congr 1; lia
 | .inl a,.inr b,h,g=>by cases h
 | .inr a,.inl b,h,g=>by cases g
 | .inr a,.inr b,h,g=>by
  simp only [kLt,decide_eq_false_iff_not] at *
  congr 1
  exact PyProof.Rows.ext_toList (List.le_antisymm (List.not_lt.mp g) (List.not_lt.mp h))
noncomputable def lexLt:List Key→List Key→Bool
 | _,[]=>false
 | [],_ :: _=>true
 | x :: xs,y :: ys=>if x=y then lexLt xs ys else kLt x y
theorem lexLt_irr:∀ a,lexLt a a=false
 | []=>rfl
 | x :: xs=>by show (if x=x then _ else _)=false; rw [if_pos rfl]; exact lexLt_irr xs
theorem lexLt_trans:∀ a b c,lexLt a b=true→lexLt b c=true→lexLt a c=true
 | a,[],_,h,_=>by rw [show lexLt a []=false by cases a <;> rfl] at h; cases h
 | _,_ :: _,[],_,g=>by cases g
 | [],_ :: _,_ :: _,_,_=>rfl
 | x :: xs,y :: ys,z :: zs,h,g=>by
  have h':(if x=y then lexLt xs ys else kLt x y)=true:=h
  have g':(if y=z then lexLt ys zs else kLt y z)=true:=g
  show (if x=z then lexLt xs zs else kLt x z)=true
  by_cases e:x=y
  ·subst e
   rw [if_pos rfl] at h'
   by_cases e2:x=z
   ·rw [if_pos e2] at g' ⊢; exact lexLt_trans _ _ _ h' g'
   ·rw [if_neg e2] at g' ⊢; exact g'
  ·rw [if_neg e] at h'
   by_cases e2:y=z
   ·subst e2; rw [if_neg e]; exact h'
   ·rw [if_neg e2] at g'
    have t:=kLt_trans _ _ _ h' g'
    by_cases e3:x=z
    ·subst e3; rw [kLt_irr] at t; cases t
    ·rw [if_neg e3]; exact t
theorem lexLt_tri:∀ a b,lexLt a b=false→lexLt b a=false→a=b
 | [],[],_,_=>rfl
 | [],_ :: _,h,_=>by cases h
 | _ :: _,[],_,g=>by cases g
 | x :: xs,y :: ys,h,g=>by
  have h':(if x=y then lexLt xs ys else kLt x y)=false:=h
  have g':(if y=x then lexLt ys xs else kLt y x)=false:=g
  by_cases e:x=y
  ·subst e
   rw [if_pos rfl] at h' g'
   rw [lexLt_tri xs ys h' g']
  ·rw [if_neg e] at h'
   rw [if_neg (Ne.symm e)] at g'
   exact absurd (kLt_tri _ _ h' g') e
noncomputable def lexO:Ord (List Key):=⟨lexLt,lexLt_irr,lexLt_trans,lexLt_tri⟩
noncomputable def kKind:Key→Bool
 | .inl _=>true
 | .inr _=>false
section
variable {prog:Program} {w:World} {A:Around} {E:Value→Shared→Prop} {s:Shared}
theorem key_eq {x y:Key} {u v:Value} (hk:kKind x=kKind y) (ru:RelV (kV x) u) (rv:RelV (kV y) v) {Q:Bool→Shared→Prop} (q:Q (decide (x=y)) s):wpAny (model prog w) A (eqBool u v) Q E s:=by
 cases x with
 | inl a=>cases y with
  | inl b =>
   obtain ⟨t,rfl⟩:=ru
   obtain ⟨t',rfl⟩:=rv
   refine wpAny_eqBool_int ?_
   have e:(a == b)=decide (Sum.inl (β:=Str) a=Sum.inl b):=by
    by_cases c:a=b
    ·subst c; simp
    ·simp [c]
   rw [e]; exact q
  | inr b=>cases hk
 | inr a=>cases y with
  | inl b=>cases hk
  | inr b =>
   obtain ⟨t,rfl⟩:=ru
   obtain ⟨t',rfl⟩:=rv
   refine wpAny_eqBool_str ?_
   have e:decide (a=b)=decide (Sum.inr (α:=Int) a=Sum.inr b):=by
    by_cases c:a=b
    ·subst c; simp
    ·simp [c]
   rw [e]; exact q
theorem key_lt (b:Bool) {x y:Key} {u v:Value} (hk:kKind x=kKind y) (ru:RelV (kV x) u) (rv:RelV (kV y) v) {Q:Bool→Shared→Prop} (q:Q (kLt x y) s):wpAny (model prog w) A (oneLt' b u v) Q E s:=by
 cases x with
 | inl a=>cases y with
  | inl c =>
   obtain ⟨t,rfl⟩:=ru
   obtain ⟨t',rfl⟩:=rv
   cases b with
   | true=>exact oneLt_int q
   | false=>exact kat_one _ _ (PyProof.Rows.lt_int (show W.BoolBack Q (Value.bool _) s from q))
  | inr b=>cases hk
 | inr a=>cases y with
  | inl b=>cases hk
  | inr c =>
   obtain ⟨t,rfl⟩:=ru
   obtain ⟨t',rfl⟩:=rv
   cases b with
   | true=>exact oneLt_str q
   | false=>exact kat_one _ _ (PyProof.Rows.lt_str (show W.BoolBack Q (Value.bool _) s from q))
theorem lex_run {b fin:Bool} {Q:Bool→Shared→Prop}:∀ {xs ys:List Key} {us vs:List Value} (i:Nat),xs.map kKind=ys.map kKind→Vals (xs.map kV) us→Vals (ys.map kV) vs→fin=false→Q (lexLt xs ys) s→KatLex prog w A b fin Q (us.zip vs) i s
 | [],[],us,vs,i,_,ru,rv,hf,q=>by
  cases ru
  cases rv
  refine kat_nil ?_
  rw [hf]; exact q
 | [],_ :: _,_,_,_,h,_,_,_,_=>by cases h
 | _ :: _,[],_,_,_,h,_,_,_,_=>by cases h
 | x :: xs,y :: ys,us,vs,i,h,ru,rv,hf,q=>by
  cases ru with
  | cons r1 ru =>
  cases rv with
  | cons r2 rv =>
  rw [List.map_cons,List.map_cons,List.cons.injEq] at h
  refine kat_cons (key_eq h.1 r1 r2 ?_)
  have q':Q (if x=y then lexLt xs ys else kLt x y) s:=q
  by_cases e:x=y
  ·rw [decide_eq_true e]
   rw [if_pos e] at q'
   exact kat_yes (lex_run (i + 1) h.2 ru rv hf q')
  ·rw [decide_eq_false e]
   rw [if_neg e] at q'
   exact kat_no (key_lt _ h.1 r1 r2 q')
noncomputable def midHeap (h:Heap) (a:Addr) (vs:List Value):Heap:=((h.update a (Obj.mapSeq fun _=>#[])).push (seqObj "tuple" vs.toArray 0)).push (seqObj "list" #[] 0)
theorem mid_at {h:Heap} {a:Addr} {vs:List Value} {n:Nat} (ho:h.get? a=some (seqObj "list" vs.toArray n)):∃ e1,(h.update a (Obj.mapSeq fun _=>(#[]:Array Value))).get? a=some (seqObj "list" #[] e1)∧(midHeap h a vs).get? a=some (seqObj "list" #[] e1):=by
 have q:=get?_update_seq ho (fun _=>(#[]:Array Value))
 exact ⟨_,q,Heap.get?_push_of_some _ (Heap.get?_push_of_some _ q)⟩
theorem mid_old {h:Heap} {a b:Addr} {vs:List Value} {o:Obj} (hb:b≠a) (q:h.get? b=some o):(midHeap h a vs).get? b=some o :=
 Heap.get?_push_of_some _ (Heap.get?_push_of_some _ ((Heap.get?_update_ne _ _ _ _ hb).trans q))
noncomputable def arranged (vs:List Value) (p:Array Nat):List Value:=p.toList.map fun i=>vs.getD i Value.none
theorem sort_two {a:Addr} {vs:List Value} {n:Nat} {P:PySem.Fin→Shared→Prop} (ho:s.heap.get? a=some (seqObj "list" vs.toArray n)) (h2:2≤vs.length) (h64:vs.length < 64)
  (h:wpAny (model prog w) A (keyKind' vs.toArray) (fun κ s'=>(kas_sort vs.length).kasWp (kas_ask prog w A κ vs) (fun p s''=>s''={ s with heap:=midHeap s.heap a vs }∧P (.done (.ret .none)) { s with heap:=sortedHeap s.heap a vs (arranged vs p).toArray }) s') (fun _ _=>False) { s with heap:=midHeap s.heap a vs }) :
  wpAny (model prog w) A (Builtin.«list.sort» ⟨[.ref a],[]⟩) P E s:=by
 obtain ⟨e1,o1,o2⟩:=mid_at ho
 rw [list_sort_plain]; refine wpAny_bind (listItems_at ho rfl ?_)
 refine wpAny_bind (listUpdate_at ho rfl ?_ (hsz:=by rw [List.size_toArray,sizeLine_eq]; lia) (hsz2:=Nat.zero_le _))
 refine wpAny_bind (seqEpoch_at o1 rfl (wpAny_bind (wpAny_newTuple ?_ (by show vs.length≤_; rw [sizeLine_eq]; lia))))
 refine wpAny_bind (wpAny_newList (wpAny_holding ?_) (Nat.zero_le _))
 show wpAny (model prog w) A _ P E { s with heap:=midHeap s.heap a vs }
 dsimp only
 have c:¬ vs.toArray.size < 2:=by rw [List.size_toArray]; lia
 rw [if_neg c,if_neg c]
 refine wpAny_bind (wpAny_mono h (fun κ s0 hk=>?_) fun _ _ x=>x.elim)
 refine wpAny_bind (wpAny_mono (kat_run (vs:=vs) (ks:=vs) (Q:=fun st' s'=>∃ p:Array Nat,p.size=vs.length∧arrOf st'=p.map (kas_item (vs.toArray.zip vs.toArray))∧failedOf st'=none∧s'={ s with heap:=midHeap s.heap a vs }∧P (.done (.ret .none)) { s with heap:=sortedHeap s.heap a vs (arranged vs p).toArray })
  rfl h2 h64 (fun p' st' s' g1 g2 g3 g4=>⟨p',g1,g2,g3,g4.1,g4.2⟩) hk) ?_ fun _ _ e=>e)
 rintro ⟨⟨⟩,st'⟩ s' ⟨p,hp,har,hf,rfl,k⟩
 dsimp only
 rw [kat_snds rfl har]
 have hsz:(arranged vs p).toArray.size=vs.length:=by rw [List.size_toArray]; unfold arranged; rw [List.length_map,Array.length_toList,hp]
 refine wpAny_bind (seqEpoch_at o2 rfl (wpAny_bind (listUpdate_at o2 rfl ?_ (hsz:=Nat.zero_le _) (hsz2:=by show (arranged vs p).toArray.size≤_; rw [hsz,sizeLine_eq]; lia))))
 rw [hf]
 simp only [bne_self_eq_false,Bool.false_eq_true,if_false]
 exact wpAny_pure k
theorem sort_few {a:Addr} {vs:List Value} {n:Nat} {P:PySem.Fin→Shared→Prop} (ho:s.heap.get? a=some (seqObj "list" vs.toArray n)) (h2:vs.length < 2) (h:P (.done (.ret .none)) { s with heap:=sortedHeap s.heap a vs vs.toArray }) :
  wpAny (model prog w) A (Builtin.«list.sort» ⟨[.ref a],[]⟩) P E s:=by
 obtain ⟨e1,o1,o2⟩:=mid_at ho
 rw [list_sort_plain]; refine wpAny_bind (listItems_at ho rfl ?_)
 refine wpAny_bind (listUpdate_at ho rfl ?_ (hsz:=by rw [List.size_toArray,sizeLine_eq]; lia) (hsz2:=Nat.zero_le _))
 refine wpAny_bind (seqEpoch_at o1 rfl (wpAny_bind (wpAny_newTuple ?_ (by show vs.length≤_; rw [sizeLine_eq]; lia))))
 refine wpAny_bind (wpAny_newList (wpAny_holding ?_) (Nat.zero_le _))
 show wpAny (model prog w) A _ P E { s with heap:=midHeap s.heap a vs }
 dsimp only
 have c:vs.toArray.size < 2:=by rw [List.size_toArray]; lia
 rw [if_pos c,if_pos c]
 refine wpAny_bind (wpAny_pure ?_)
 rw [StateT.run_pure]
 refine wpAny_bind (wpAny_pure ?_)
 dsimp only
 have e:(arrOf (SortSt.mk' general' (vs.toArray.zip vs.toArray) #[] 7 none)).map (·.2)=vs.toArray:=by
  show (vs.toArray.zip vs.toArray).map (·.2)=vs.toArray
  rcases vs with _ | ⟨x,_ | ⟨y,r⟩⟩
  ·simp
  ·simp
  ·exact absurd h2 (by simp)
 rw [e]
 refine wpAny_bind (seqEpoch_at o2 rfl (wpAny_bind (listUpdate_at o2 rfl ?_ (hsz:=Nat.zero_le _) (hsz2:=by show vs.toArray.size≤_; rw [List.size_toArray,sizeLine_eq]; lia))))
 simp only [bne_self_eq_false,Bool.false_eq_true,if_false]
 exact wpAny_pure h
noncomputable def newHeap (h:Heap) (vs:List Value):Heap:=((h.push (seqObj "list" #[] 0)).update h.objs.size (Obj.mapSeq (· ++ vs.toArray))).push (seqObj "list" vs.toArray 0)
theorem new_at (h:Heap) (vs:List Value):(newHeap h vs).get? (h.objs.size + 1)=some (seqObj "list" vs.toArray 0):=by
 have e:((h.push (seqObj "list" #[] 0)).update h.objs.size (Obj.mapSeq (· ++ vs.toArray))).objs.size=h.objs.size + 1:=by rw [Heap.size_update,size_push']
 rw [← e]; exact Heap.get?_push_size _ rfl
theorem new_old {h:Heap} {vs:List Value} {b:Addr} {o:Obj} (q:h.get? b=some o):(newHeap h vs).get? b=some o:=by
 have lt:b < h.objs.size:=Heap.lt_size q
 exact Heap.get?_push_of_some _ ((Heap.get?_update_ne _ _ _ _ (Nat.ne_of_lt lt)).trans (Heap.get?_push_of_some _ q))
theorem sorted_by {l:Addr} {vs:List Value} {Q:Value→Shared→Prop} (hl:s.heap.IsList l vs.toArray) (hz:vs.length≤sizeLine)
  (h:wpAny (model prog w) A.in1.in1 (Builtin.«list.sort» ⟨[.ref (s.heap.objs.size + 1)],[]⟩) (fun f s'=>f=.done (.ret .none)∧Q (.ref (s.heap.objs.size + 1)) s') E { s with heap:=newHeap s.heap vs }) :
  wpAny (model prog w) A (call (.builtin "sorted") [.ref l]) Q E s:=by
 refine Calls.call_function_entry kind_sorted plain_sorted entry_sorted (args_sorted1 _) ?_
 unfold Builtin.«sorted»
 refine wpAny_bind (m:=checkCount "sorted" 1 1 _) (wpAny_pure (wpAny_bind (collect_list hl (wpAny_bind (wpAny_newList ?_ hz)) hz)))
 have e:((s.heap.push (seqObj "list" #[] 0)).update s.heap.objs.size (Obj.mapSeq (· ++ vs.toArray))).objs.size=s.heap.objs.size + 1:=by rw [Heap.size_update,size_push']
 show wpAny _ _ _ _ _ { s with heap:=newHeap s.heap vs }
 rw [e]
 refine wpAny_bind (wpAny_holding (wpAny_call_entry slot_list_sort ⟨_,new_at _ _,rfl⟩ entry_list_sort (wpAny_mono h (fun f s' hf=>?_) fun _ _ x=>x) (args_list_sort _)))
 obtain ⟨rfl,q⟩:=hf
 exact ⟨_,rfl,wpAny_pure ⟨_,rfl,q⟩⟩
end
noncomputable abbrev TK:=Addr×List Key
noncomputable def tk0:TK:=(0,[])
theorem tk_vals {ps:List TK} {us:List Value} (r:Vals (ps.map fun q=>V.ref q.1) us):us=ps.map fun q=>Value.ref q.1:=by
 induction ps generalizing us with
 | nil=>cases r; rfl
 | cons q ps ih =>
  cases r with
  | cons r1 r =>
   rw [List.map_cons,← ih r]
   congr 1
theorem tk_back:∀ (ps:List TK),Vals (ps.map fun q=>V.ref q.1) (ps.map fun q=>Value.ref q.1)
 | []=>.nil
 | _ :: ps=>.cons rfl (tk_back ps)
noncomputable def RisesK (ps:List TK):Prop:=ps.Pairwise fun p q=>lexLt q.2 p.2=false
theorem arr_sorted {ps:List TK} {p:Array Nat} (a:Arr ps.length p) (u:UpTo lexO (fun i=>(ps.getD i tk0).2) p ps.length) :
  ∃ ps':List TK,ps'.Perm ps∧RisesK ps'∧arranged (ps.map fun q=>Value.ref q.1) p=ps'.map fun q=>Value.ref q.1:=by
 refine ⟨p.toList.map fun i=>ps.getD i tk0,?_,?_,?_⟩
 ·refine (a.perm.map _).trans (List.Perm.of_eq ?_)
  refine List.ext_getElem (by simp) fun i h1 h2=>?_
  simp [List.getD_eq_getElem?_getD,h2]
 ·unfold RisesK
  rw [List.pairwise_iff_getElem]
  intro i j hi hj hij
  have hs:=a.size
  have hj':j < p.size:=by simpa using hj
  have hi':i < p.size:=by lia
  have t:=u i j (Nat.le_of_lt hij) (by lia)
  have e1:p.getD i 0=p[i]:=by simp [Array.getD,hi']
  have e2:p.getD j 0=p[j]:=by simp [Array.getD,hj']
  unfold KY at t
  rw [e1,e2] at t
  have t':lexLt (ps.getD p[j] tk0).2 (ps.getD p[i] tk0).2=false:=t
  simpa using t'
 ·unfold arranged
  rw [List.map_map]
  refine List.map_congr_left fun i hi=>?_
  have:i < ps.length:=List.mem_range.mp (a.perm.mem_iff.mp hi)
  simp [List.getD_eq_getElem?_getD,this]
section
variable {X:Cx}
theorem call_sorted_tups:CallR X (.builtin "sorted") (fun xs H Q=>Ex_3_6 (fun (p:Addr) (ps:List TK) (sh:List Bool)=>xs=[.ref p]) (fun p ps sh=>SqL X.K H p (ps.map fun q=>V.ref q.1)) (fun p ps sh=>(∀ q∈ps,SqT X.K H q.1 (q.2.map kV)∧q.2.map kKind=sh)) (fun p ps sh=>sh≠[]) (fun p ps sh=>ps.length < 64) (fun p ps sh=>∀ (l:Addr) (ps':List TK),H l=none→ps'.Perm ps→RisesK ps'→Q (.ref l) (upd H l (.lst (ps'.map fun q=>V.ref q.1))))):=by
 intro pins s σ H xs us Q I r h
 obtain ⟨p,ps,sh,rfl,hp,hk,hsh,h64,q⟩:=h
 obtain ⟨u,rfl,ru⟩:=vals1 r
 cases ru
 obtain ⟨its,rv,pl,hz⟩:=I.list hp
 have e:=tk_vals rv
 subst e
 have hl:(ps.map fun q=>Value.ref q.1).length=ps.length:=List.length_map ..
 have fin:∀ (ps':List TK),ps'.Perm ps→RisesK ps'→∀ (s':Shared),s'={ s with heap:=sortedAll s.heap (ps.map fun q=>Value.ref q.1) (ps'.map fun q=>Value.ref q.1).toArray }→Ex_2_3 (fun (v:V) (H':Hp)=>Inv X pins σ H' s') (fun v H'=>RelV v (.ref (s.heap.objs.size + 1))) (fun v H'=>Q v H'):=by
  rintro ps' hp' hr' s' rfl
  obtain ⟨ee,he⟩:=sortedAll_at s.heap (ps.map fun q=>Value.ref q.1) (ps'.map fun q=>Value.ref q.1).toArray
  have new:ObjOk X.prog X.w (upd H (s.heap.objs.size + 1) (.lst (ps'.map fun q=>V.ref q.1))) (sortedAll s.heap (ps.map fun q=>Value.ref q.1) (ps'.map fun q=>Value.ref q.1).toArray) (s.heap.objs.size + 1) (.lst (ps'.map fun q=>V.ref q.1)) :=
   ⟨by rw [List.length_map,hp'.length_eq,sizeLine_eq]; lia,_,ee,tk_back ps',he⟩
  exact ⟨.ref (s.heap.objs.size + 1),_,I.turnLay (t':=s.toks) (d':=s.drawn) (fp:=[]) (fun b hb=>nomatch hb) (Nat.le_succ _) (fun b ob _ z=>sortedAll_old z) new,rfl,q _ ps' (I.hok.fresh (Nat.le_succ _)) hp' hr'⟩
 refine sorted_by pl.isList (by rw [hl,sizeLine_eq]; lia) ?_
 by_cases h2:ps.length < 2
 ·refine sort_few (new_at _ _) (by rw [hl]; exact h2) ⟨rfl,fin ps (List.Perm.refl _) ?_ _ rfl⟩
  match ps,h2 with
  | [],_=>exact List.Pairwise.nil
  | [x],_=>exact List.pairwise_singleton _ _
 ·refine sort_two (new_at _ _) (by rw [hl]; lia) (by rw [hl]; exact h64) ?_
  have tup:∀ x∈ps,∃ us:List Value,Vals (x.2.map kV) us∧IsTup (midHeap (newHeap s.heap (ps.map fun q=>Value.ref q.1)) (s.heap.objs.size + 1) (ps.map fun q=>Value.ref q.1)) x.1 us.toArray:=fun x hx=>by
   obtain ⟨us,ru,pt,_⟩:=I.tuple (hk x hx).1
   obtain ⟨o,ho,rest⟩:=pt
   exact ⟨us,ru,o,mid_old (Nat.ne_of_lt (Nat.lt_succ_of_lt (Heap.lt_size ho))) (new_old ho),rest⟩
  obtain ⟨hM,hm⟩:∃ hM,midHeap (newHeap s.heap (ps.map fun q=>Value.ref q.1)) (s.heap.objs.size + 1) (ps.map fun q=>Value.ref q.1)=hM:=⟨_,rfl⟩
  rw [hm] at tup ⊢
  obtain ⟨kb,sh',rfl⟩:Ex_2_1 (fun kb sh'=>sh=kb :: sh'):=by
   cases sh with
   | nil=>exact absurd rfl hsh
   | cons kb sh'=>exact ⟨kb,sh',rfl⟩
  have firsts:∀ (l:List TK),(∀ x∈l,x∈ps)→∃ fs:List Value,KatTups hM (l.map fun q=>Value.ref q.1) fs∧fs.length=l.length∧∀ v∈fs,if kb=true then Ex_2_1 (fun i t=>v=.int i t) else Ex_2_1 (fun x t=>v=.str x t):=by
   intro l
   induction l with
   | nil=>exact fun _=>⟨[],KatTups.nil,rfl,fun v hv=>nomatch hv⟩
   | cons x l ih =>
    intro hx
    obtain ⟨fs,f1,f2,f3⟩:=ih fun y hy=>hx y (List.mem_cons_of_mem _ hy)
    obtain ⟨us,ru,o,ho,hc,n,hd⟩:=tup x (hx x (List.mem_cons_self ..))
    have hs:=(hk x (hx x (List.mem_cons_self ..))).2
    obtain ⟨xa,xk⟩:=x
    cases xk with
    | nil=>cases hs
    | cons k ks =>
     rw [List.map_cons,List.cons.injEq] at hs
     cases ru with
     | @cons _ u _ us r1 ru =>
      refine ⟨u :: fs,KatTups.cons ho hc hd (by simp) f1,by simp [f2],fun v hv=>?_⟩
      rcases List.mem_cons.mp hv with rfl | hv
      ·rw [← hs.1]
       cases k with
       | inl i=>rw [if_pos (show kKind (Sum.inl i)=true from rfl)]; exact let ⟨t,e⟩:=r1; ⟨i,t,e⟩
       | inr x=>rw [if_neg (show ¬ kKind (Sum.inr x)=true from Bool.false_ne_true)]; exact let ⟨t,e⟩:=r1; ⟨x,t,e⟩
      ·exact f3 v hv
  obtain ⟨fs,f1,f2,f3⟩:=firsts ps fun _ h=>h
  refine kat_kind (T:=.type (if kb=true then "int" else "str")) f1 (by rw [f2]; lia) (fun v hv=>?_) ?_ ?_
  ·have:=f3 v hv
   cases kb with
   | true=>rw [if_pos rfl] at this ⊢; obtain ⟨i,t,rfl⟩:=this; exact Looks.of_pure rfl
   | false=>rw [if_neg (by decide)] at this ⊢; obtain ⟨i,t,rfl⟩:=this; exact Looks.of_pure rfl
  ·cases kb <;> rfl
  rw [hl]
  have n0:0 < ps.length:=by lia
  refine asks_wp (n:=ps.length) (c:=cm lexO fun i=>(ps.getD i tk0).2) (P:=fun p=>Arr ps.length p∧UpTo lexO (fun i=>(ps.getD i tk0).2) p ps.length) (J:=fun s'=>s'=_) (fun i j C s' hi hj hs' hC=>?_) (fun p s' hP hs'=>?_) (kas_sort ps.length) _ (asks_sort n0) rfl
  ·subst hs'
   have mi:ps.getD i tk0∈ps:=by simp [List.getD_eq_getElem?_getD,hi]
   have mj:ps.getD j tk0∈ps:=by simp [List.getD_eq_getElem?_getD,hj]
   obtain ⟨us,ru,o,ho,hc,n,hd⟩:=tup _ mi
   obtain ⟨us',ru',o',ho',hc',n',hd'⟩:=tup _ mj
   unfold kas_ask
   have ei:(ps.map fun q=>Value.ref q.1).getD i Value.none=.ref (ps.getD i tk0).1:=by simp [List.getD_eq_getElem?_getD,hi]
   have ej:(ps.map fun q=>Value.ref q.1).getD j Value.none=.ref (ps.getD j tk0).1:=by simp [List.getD_eq_getElem?_getD,hj]
   rw [ei,ej]
   have hkk:(ps.getD i tk0).2.map kKind=(ps.getD j tk0).2.map kKind:=(hk _ mi).2.trans (hk _ mj).2.symm
   refine kat_lt ho hd ho' hd' (lex_run 0 hkk ru ru' ?_ (hC _ rfl))
   have e3:(ps.getD i tk0).2.length=(ps.getD j tk0).2.length:=by have:=congrArg List.length hkk; simpa using this
   have e1:=ru.length
   have e2:=ru'.length
   rw [List.length_map] at e1 e2
   rw [decide_eq_false_iff_not,List.size_toArray,List.size_toArray]
   lia
  ·subst hs'
   obtain ⟨ps',g1,g2,g3⟩:=arr_sorted hP.1 hP.2
   exact ⟨rfl,rfl,fin ps' g1 g2 _ (by rw [g3]; rfl)⟩
end
end L2
set_option Elab.async false
set_option linter.all false
set_option maxRecDepth 100000
set_option maxHeartbeats 4100000
namespace L2
open PySem PySem.Spec PyProof.Rows
noncomputable def RawD (h:Heap) (d:Addr) (es:Array DictEntry) (ep:Nat):Prop:=∃ o,h.get? d=some o∧o.ExactDict∧o.data=.dict es ep
section
variable {prog:Program} {w:World} {A:Around} {E:Value→Shared→Prop} {s:Shared} {d it:Addr} {es:Array DictEntry} {ep i:Nat}
theorem raw_iter {Q:Value→Shared→Prop} (hd:(d == sysModules)=false) (r:RawD s.heap d es ep)
  (q:Q (.ref s.heap.objs.size) { s with heap:=s.heap.push { cls:=.type "dict_keyiterator",data:=.fields #[.ref d,.int 0 0,.int es.size 0,.int ep 0] } }):wpAny (model prog w) A (pyIter (.ref d)) Q E s:=by
 obtain ⟨o,ho,hc,hdat⟩:=r
 have ty:s.TypeIs (.ref d) "dict":=⟨o,ho,hc.1⟩
 refine wpAny_pyIter_slot ty F.slot_dict_iter (wpAny_call_entry F.slot_dict_iter ty F.entry_dict_iter ?_ (F.args_dict_iter_1 _))
 unfold Builtin.«dict.__iter__»; refine wpAny_bind ?_; unfold Builtin.Dict.dictSlotNone
 refine wpAny_bind (wpAny_notOrdered_dict ty ?_); show wpAny _ _ (pure (Value.ref d)) _ _ s; refine wpAny_pure ?_
 show wpAny _ _ (Builtin.Dict.showsAll d >>= _) _ _ s; unfold Builtin.Dict.showsAll
 rw [if_neg (by rw [hd]; exact Bool.false_ne_true)]; refine wpAny_bind (wpAny_pure ?_)
 refine wpAny_bind (wpAny_dictEntries ho hdat (wpAny_bind (wpAny_dictEpoch ho hdat ?_)))
 refine wpAny_bind (wpAny_newObj_type (wpAny_pure ⟨_,rfl,"dict_keyiterator",_,⟨_,Heap.get?_push_size _ rfl,rfl⟩,F.slot_dict_keyiterator_next.lookup,?_⟩)); simpa [rawInt] using q
theorem raw_item {Q:Option Value→Shared→Prop} (st:s.heap.IsKeyIter it d i es.size ep) (r:RawD s.heap d es ep) (hi:i < es.size)
  (q:∀ h',h'.IsKeyIter it d (i + 1) es.size ep→Heap.SameBut it s.heap h'→Q (some es[i].key) { s with heap:=h' }):wpAny (model prog w) A (pyNext (.ref it)) Q E s:=by
 obtain ⟨o,ho,hc,hd⟩:=id st
 obtain ⟨od,hod,hcd,hdd⟩:=r
 unfold pyNext; refine wpAny_bind (wpAny_attempt (wpAny_callSpecial?_slot (name:=Str.ofString "__next__") st.typeIs F.slot_dict_keyiterator_next (wpAny_call_entry F.slot_dict_keyiterator_next st.typeIs F.entry_dict_keyiterator_next ?_ (F.args_dict_keyiterator_next_1 _))))
 refine wpAny_bind (wpAny_pure (wpAny_bind (wpAny_bind ?_)))
 first | refine wpAny_bind (wpAny_typeNameOfWhole_keyiter st.typeIs (wpAny_pure ?_)) | refine wpAny_bind (wpAny_typeNameOf_keyiter st.typeIs (wpAny_pure ?_))
 refine wpAny_bind (wpAny_fieldsOf ho hd ?_); have own:Builtin.Dict_items.ownsTuple "dict_keyiterator"=false:=by decide
 rw [own,if_neg Bool.false_ne_true]; show wpAny _ _ (if (Value.ref d == Value.none)=true then _ else _) _ _ s
 rw [if_neg (show ¬ ((Value.ref d == Value.none)=true) from Bool.false_ne_true)]; refine wpAny_bind (wpAny_pure (wpAny_bind (wpAny_dictEntries hod hdd ?_)))
 rw [if_neg (by simp)]; refine wpAny_bind (wpAny_pure (wpAny_bind (wpAny_dictEpoch hod hdd ?_))); rw [if_neg (by simp)]; refine wpAny_pure ?_
 dsimp only; rw [if_neg (show ¬ ((i:Int) < 0) from by lia),Int.toNat_natCast,Array.getElem?_eq_getElem hi]; refine wpAny_bind ?_
 first | refine wpAny_bind (wpAny_typeNameOfWhole_keyiter st.typeIs (wpAny_pure ?_)) | refine wpAny_bind (wpAny_typeNameOf_keyiter st.typeIs (wpAny_pure ?_))
 refine wpAny_bind (wpAny_isOneOf_keyiter st.typeIs ?_); show wpAny _ _ (setField (.ref it) 1 (rawInt ((i:Int) + 1)) >>= _) _ _ s
 refine wpAny_bind (wpAny_setField ho hd (by simp) ?_)
 have st':(s.heap.update it (Obj.mapFields (·.setIfInBounds 1 (rawInt ((i:Int) + 1))))).IsKeyIter it d (i + 1) es.size ep :=
  ⟨_,Heap.get?_update_self _ ho (Obj.isFreed_of_fields (Obj.data_mapFields hd _)),(Obj.cls_mapFields ..).trans hc,by rw [Obj.data_mapFields hd]; simp [rawInt]⟩
 refine wpAny_bind (wpAny_holding (wpAny_bind (wpAny_isOneOf_keyiter (s:={ s with heap:=s.heap.update it (Obj.mapFields (·.setIfInBounds 1 (rawInt ((i:Int) + 1)))) }) st'.typeIs ?_)))
 show wpAny _ _ (pure es[i].key) _ _ _; exact wpAny_pure (wpAny_pure ⟨_,rfl,wpAny_pure (q _ st' (Heap.SameBut.update ..))⟩)
theorem raw_end {Q:Option Value→Shared→Prop} (hh:A.handled=none) (st:s.heap.IsKeyIter it d i es.size ep) (r:RawD s.heap d es ep) (hi:es.size≤i)
  (q:∀ h',Heap.ExtBut it s.heap h'→Q none { s with heap:=h' }):wpAny (model prog w) A (pyNext (.ref it)) Q E s:=by
 obtain ⟨o,ho,hc,hd⟩:=id st
 obtain ⟨od,hod,hcd,hdd⟩:=r
 unfold pyNext; refine wpAny_bind (wpAny_attempt (wpAny_callSpecial?_slot (name:=Str.ofString "__next__") st.typeIs F.slot_dict_keyiterator_next (wpAny_call_entry F.slot_dict_keyiterator_next st.typeIs F.entry_dict_keyiterator_next ?_ (F.args_dict_keyiterator_next_1 _))))
 refine wpAny_bind (wpAny_pure (wpAny_bind (wpAny_bind ?_)))
 first | refine wpAny_bind (wpAny_typeNameOfWhole_keyiter st.typeIs (wpAny_pure ?_)) | refine wpAny_bind (wpAny_typeNameOf_keyiter st.typeIs (wpAny_pure ?_))
 refine wpAny_bind (wpAny_fieldsOf ho hd ?_); have own:Builtin.Dict_items.ownsTuple "dict_keyiterator"=false:=by decide
 rw [own,if_neg Bool.false_ne_true]; show wpAny _ _ (if (Value.ref d == Value.none)=true then _ else _) _ _ s
 rw [if_neg (show ¬ ((Value.ref d == Value.none)=true) from Bool.false_ne_true)]; refine wpAny_bind (wpAny_pure (wpAny_bind (wpAny_dictEntries hod hdd ?_)))
 rw [if_neg (by simp)]; refine wpAny_bind (wpAny_pure (wpAny_bind (wpAny_dictEpoch hod hdd ?_))); rw [if_neg (by simp)]; refine wpAny_pure ?_
 dsimp only; rw [if_neg (show ¬ ((i:Int) < 0) from by lia),Int.toNat_natCast,Array.getElem?_eq_none hi]; refine wpAny_bind ?_
 first | refine wpAny_bind (wpAny_typeNameOfWhole_keyiter st.typeIs (wpAny_pure ?_)) | refine wpAny_bind (wpAny_typeNameOf_keyiter st.typeIs (wpAny_pure ?_))
 show wpAny _ _ (setField (.ref it) 0 .none >>= _) _ _ s; refine wpAny_bind (wpAny_setField ho hd (by simp) ?_)
 show wpAny _ _ (newExc (.type "StopIteration") [] >>= _) _ _ _; refine wpAny_bind ?_; unfold newExc newTuple; refine wpAny_bind (wpAny_newObj_type ?_ (by size_fits))
 refine wpAny_bind (m:=firstArgMember _ _) (wpAny_of_eq (a:=Value.none) (by first | rfl | (simp only [firstArgMember]; rfl)) (wpAny_newObj_type ?_ (by size_fits)))
 refine wpAny_raiseNew_none hh ?_
 refine wpAny_bind (wpAny_isInstance (T:="StopIteration") (b:=true) ⟨_,Heap.get?_push_size _ rfl,rfl⟩ isSubtype_stop ?_); exact wpAny_pure (q _ (((Heap.SameBut.update ..).extBut.push _).push _))
end
section
variable {X:Cx} {pins:List (Addr×Obj)} {σ:St} {H:Hp} {s:Shared} {d:Addr} {kvs:List (List Key×V)} {ob:Obj}
theorem Inv.freeze (I:Inv X pins σ H s) (e:H d=some (.dT kvs)) (ho:s.heap.get? d=some ob):Inv X pins σ (upd H d (.frz ob (.dT kvs))) s:=by
 refine I.write (x:=d) (e:=d) (o:=.frz ob (.dT kvs)) (t':=s.toks) (by rw [e]; trivial) (.inl rfl) (fun b u _ q=>q) ⟨ob,ho⟩ ⟨ho,?_⟩
 obtain ⟨z,y,xs,r,rest⟩:=(show ObjOk X.prog X.w H s.heap d (.dT kvs) from I.hok d _ e)
 exact ⟨z,y,xs,KT.keeps r fun b ys q=>by rw [upd_ne (ne_of q e (by intro h; cases h))]; exact q,rest⟩
theorem Inv.thaw (I:Inv X pins σ H s) (n:∀ o u,X.H₀ d≠some (.frz o u)) (e:H d=some (.frz ob (.dT kvs))):Inv X pins σ (upd H d (.dT kvs)) s:=by
 have ne:∀ b u,H b=some u→u≠.frz ob (.dT kvs)→b≠d:=fun b u q h z=>by subst z; rw [e] at q; exact h (Option.some.inj q).symm
 have nn:∀ b,H b=none→b≠d:=fun b q z=>by subst z; rw [e] at q; cases q
 refine ⟨I.ok,I.os,I.bare,⟨I.base.keep,I.base.slot,fun b o q n0 hx=>?_,I.base.there,fun b xs q=>?_,fun b o u q=>?_,fun b ps q=>?_⟩,I.loc,I.cell,?_,fun x c q=>?_,fun p hp=>?_,fun b u q=>?_,I.len⟩
 ·have z:=I.base.free b o q n0 hx
  rw [upd_ne (nn b z)]; exact z
 ·have z:=I.base.tups b xs q
  rw [upd_ne (ne b _ z (by intro h; cases h))]; exact z
 ·have z:=I.base.frzs b o u q
  by_cases c:b=d
  ·subst c; exact absurd q (n o u)
  ·rw [upd_ne c]; exact z
 ·obtain ⟨m,z⟩:=I.base.tbls b ps q
  exact ⟨m,by rw [upd_ne (ne b _ z (by intro h; cases h))]; exact z⟩
 ·rw [upd_ne (nn _ I.free)]; exact I.free
 ·rw [upd_ne (nn _ (I.freeC x c q))]; exact I.freeC x c q
 ·obtain ⟨q1,q2,q3⟩:=I.pin p hp
  exact ⟨q1,by rw [upd_ne (nn _ q2)]; exact q2,q3⟩
 ·by_cases c:b=d
  ·subst c
   rw [upd_same] at q
   cases q
   obtain ⟨_,z,y,xs,r,rest⟩:=(show ObjOk X.prog X.w H s.heap b (.frz ob (.dT kvs)) from I.hok b _ e)
   exact ⟨z,y,xs,KT.keeps r fun b' ys q'=>by rw [upd_ne (ne b' _ q' (by intro h; cases h))]; exact q',rest⟩
  ·rw [upd_ne c] at q
   exact (I.hok b u q).stay (fun _ _ _ q'=>q') (fun c' q'=>by rw [upd_ne (ne c' _ q' (by intro h; cases h))]; exact q') fun c' ys q'=>by rw [upd_ne (ne c' _ q' (by intro h; cases h))]; exact q'
end
noncomputable def Itd (d:Addr) (ob:Obj) (kvs:List (List Key×V)):It :=
 ⟨fun i H=>H d=some (.frz ob (.dT kvs))∧i < kvs.length,fun i H v H'=>H'=H∧Ex_3_3 (fun a k x=>v=.ref a) (fun a k x=>kvs[i]?=some (k,x)) (fun a k x=>H a=some (.tup (k.map kV))),fun i H=>H d=some (.frz ob (.dT kvs))∧kvs.length≤i⟩
theorem kt_at {H:Hp} {kvs:List (List Key×V)} {xs:List (List Key×Addr×Value)} (r:KT H kvs xs) {i:Nat} (hi:i < kvs.length):Ex_4_4 (fun k x a u=>kvs[i]?=some (k,x)) (fun k x a u=>xs[i]?=some (k,a,u)) (fun k x a u=>H a=some (.tup (k.map kV))) (fun k x a u=>RelV x u):=by
 induction r generalizing i with
 | nil=>cases hi
 | @cons p q ps qs h t ih =>
  obtain ⟨h1,h2,h3⟩:=h
  cases i with
  | zero =>
   obtain ⟨k,x⟩:=p
   obtain ⟨k',a,u⟩:=q
   cases (show k=k' from h1)
   exact ⟨k,x,a,u,rfl,rfl,h2,h3⟩
  | succ j=>exact ih (Nat.lt_of_succ_lt_succ hi)
theorem kt_len {H:Hp} {kvs:List (List Key×V)} {xs:List (List Key×Addr×Value)} (r:KT H kvs xs):kvs.length=xs.length:=Paired.length r
theorem frz_raw {P:Program} {w:World} {H:Hp} {h:Heap} {d:Addr} {ob:Obj} {kvs:List (List Key×V)} {es:Array DictEntry} {ep:Nat} (ok:HOk P w H h) (e:H d=some (.frz ob (.dT kvs))) (hd:ob.data=.dict es ep) :
  RawD h d es ep∧es.size=kvs.length∧∀ i (hi:i < es.size),Ex_3_3 (fun k x a=>kvs[i]?=some (k,x)) (fun k x a=>es[i].key=.ref a) (fun k x a=>H a=some (.tup (k.map kV))):=by
 obtain ⟨e1,z,y,xs,r,o,es',ep',h1,h2,h3,h4,h5⟩:=(show ObjOk P w H h d (.frz ob (.dT kvs)) from ok d _ e)
 rw [e1] at h1
 cases h1
 rw [hd] at h3
 cases h3
 have hl:es.size=kvs.length:=by rw [kt_len r,← List.length_map (f:=entryOfKey (tupleKind (mixKind P w))),← h4,Array.length_toList]
 refine ⟨⟨ob,e1,h2,hd⟩,hl,fun i hi=>?_⟩
 obtain ⟨k,x,a,u,g1,g2,g3,g4⟩:=kt_at r (hl ▸ hi)
 refine ⟨k,x,a,g1,?_,g3⟩
 have:es.toList[i]?=some (entryOfKey (tupleKind (mixKind P w)) (k,a,u)):=by rw [h4,List.getElem?_map,g2]; rfl
 have e2:es[i]?=some (entryOfKey (tupleKind (mixKind P w)) (k,a,u)):=by rw [← Array.getElem?_toList]; exact this
 obtain ⟨_,e3⟩:=Array.getElem?_eq_some_iff.mp e2
 rw [e3]; rfl
theorem turn_keys {P:Program} {w:World} {K:PySem.W.Frag} {tg:Expr} (d it:Addr) {ob:Obj} {kvs:List (List Key×V)} {es:Array DictEntry} {ep:Nat} (hdt:ob.data=.dict es ep) :
  Turn P w K tg (Itd d ob kvs) [it] it (fun i h=>h.IsKeyIter it d i es.size ep) where
 mem:=by simp
 obj:=fun i h st b hb=>by
  have e:b=it:=by simpa using hb
  subst e
  obtain ⟨o,e,c,d⟩:=st
  exact ⟨o,e,fun v z=>by rw [d] at z; cases z⟩
 keep:=fun i h h' st k=>st.at fun o e=>k it (by simp) o e
 item:=by
  intro X hP hw hK hc i pins s σ H E I hf st hg
  subst hP hw hK
  obtain ⟨f0,f1,f2,f3,f4,f5⟩:=hf it (by simp)
  obtain ⟨g1,g2⟩:=hg
  obtain ⟨r,hl,ks⟩:=frz_raw I.hok g1 hdt
  have hi:i < es.size:=by lia
  obtain ⟨k,x,a,k1,k2,k3⟩:=ks i hi
  refine raw_item st r hi fun h' st' sb=>?_
  have I1:Inv X pins σ H { s with heap:=h' }:=I.turned (t':=s.toks) (fun b o hb e=>(sb.2 b hb).trans e) f0 f1 f3 f4 f5
  obtain ⟨o,e,c,dd⟩:=id st'
  exact ⟨_,rfl,go_of (s:={ s with heap:=h' }) e c dd (by decide) ⟨.ref a,H,I1,k2,⟨rfl,a,k,x,rfl,k1,k3⟩,st',fun b hb=>(hf b hb).1⟩⟩
 done:=by
  intro X hP hw hK hc i pins s σ H E I hf st hg
  subst hP hw hK
  obtain ⟨f0,f1,f2,f3,f4,f5⟩:=hf it (by simp)
  obtain ⟨g1,g2⟩:=hg
  obtain ⟨r,hl,ks⟩:=frz_raw I.hok g1 hdt
  exact raw_end (I.ok.hd hc) st r (by lia) fun h' eb=>⟨rfl,I.turned (t':=s.toks) (fun b o hb e=>eb b o hb e) f0 f1 f3 f4 f5⟩
 self:=fun _ _ _ _ _ st h=>wpAny_pyIter_keyiter st h
noncomputable def iKeys (tl:TE):TI:=fun σ H R=>tl σ H fun x H1=>Ex_2_3 (fun d kvs=>x=.ref d) (fun d kvs=>H1 d=some (.dT kvs)) (fun d kvs=>∀ ob,R (Itd d ob kvs) (upd H1 d (.frz ob (.dT kvs))))
theorem pi_keys {X:Cx} {tg l:Expr} {tl:TE} (hl:PE X l tl):PI X tg l (iKeys tl):=by
 intro pins s σ H R I h
 refine thnE (hl pins s σ H _ I h) fun v s1 x H1 I1 r1 q1=>?_
 obtain ⟨d,kvs,e,hd,q⟩:=q1
 subst e
 cases r1
 obtain ⟨z,y,xs,r,o,es,ep,h1,h2,h3,h4,h5⟩:=(show ObjOk X.prog X.w H1 s1.heap d (.dT kvs) from I1.hok d _ hd)
 refine raw_iter y ⟨o,h1,h2,h3⟩ ?_
 have I2:=I1.freeze hd h1
 refine ⟨s1.heap.objs.size,[s1.heap.objs.size],_,_,_,rfl,I2.kept (t':=s1.toks) fun b o e=>Heap.get?_push_of_some _ e,turn_keys d _ h3,⟨_,Heap.get?_push_size _ rfl,rfl,rfl⟩,fun b hb=>?_,q o⟩
 have e:b=s1.heap.objs.size:=by simpa using hb
 subst e
 exact I2.fpOk (Nat.le_refl _) (I2.hok.fresh (Nat.le_refl _))
theorem comp_keys {d D:Addr} {ob:Obj} {kvs:List (List Key×V)} {g:TG} {tt:TT} {te:TE} {σc:St} {H:Hp} {F:Hp→Prop} (Pv:Nat→St→List V→Hp→Prop) (h0:Pv 0 σc [] (upd H D (.lst [])))
  (hl:∀ i σ ys H,i≤kvs.length→Pv i σ ys H→H d=some (.frz ob (.dT kvs))∧H D=some (.lst ys)∧ys.length≤i) (hz:kvs.length≤sizeLine)
  (hs:∀ i a k x σ ys H,kvs[i]?=some (k,x)→H a=some (.tup (k.map kV))→Pv i σ ys H→g (.ref a) σ H fun σ2 H2=>tt σ2 H2 fun b H3=>if b=true then te σ2 H3 fun y H4=>H4 D=some (.lst ys)∧Pv (i + 1) σ2 (ys ++ [y]) (upd H4 D (.lst (ys ++ [y]))) else Pv (i + 1) σ2 ys H3)
  (hd:∀ σ ys H,Pv kvs.length σ ys H→F H):tLoopC g tt te σc D (Itd d ob kvs) H F:=by
 refine ⟨fun i m σ ys H=>m=kvs.length - i∧i≤kvs.length∧Pv i σ ys H,⟨kvs.length,by simp,Nat.zero_le _,h0⟩,?_⟩
 rintro i m σ ys H ⟨rfl,hi,p⟩
 obtain ⟨q,hD,hy⟩:=hl i σ ys H hi p
 refine ⟨hD,?_⟩
 by_cases hlt:i < kvs.length
 ·refine .inr ⟨⟨q,hlt⟩,by lia,Pv (i + 1),fun σ' ys' H' p'=>⟨kvs.length - (i + 1),by lia,rfl,hlt,p'⟩,fun v H' y=>?_⟩
  obtain ⟨e,a,k,x,rfl,hk,ha⟩:=y
  subst e
  exact hs i a k x σ ys _ hk ha p
 ·have e:i=kvs.length:=by lia
  subst e
  exact .inl ⟨⟨q,Nat.le_refl _⟩,hd σ ys H p⟩
noncomputable def tThaw (te:TE):TE:=fun σ H Q=>Ex_2_2 (fun d kvs=>H d=some (.dT kvs)) (fun d kvs=>te σ H fun v H1=>∃ ob,H1 d=some (.frz ob (.dT kvs))∧Q v (upd H1 d (.dT kvs)))
theorem pe_thaw {X:Cx} {e:Expr} {te:TE} (he:PE X e te):PE X e (tThaw te):=by
 intro pins s σ H Q I h
 obtain ⟨d,kvs,hd,h⟩:=h
 refine thn (he pins s σ H _ I h) fun v s1 ⟨x,H1,I1,r1,ob,q1,q2⟩=>⟨x,_,I1.thaw (fun o u z=>?_) q1,r1,q2⟩
 have:=I.base.frzs d o u z
 rw [hd] at this
 cases this
section
variable {prog:Program} {w:World} {A:Around} {d:Addr} {es:Array DictEntry} {ep:Nat}
theorem RawD.at {h h':Heap} (r:RawD h d es ep) (k:∀ o,h.get? d=some o→h'.get? d=some o):RawD h' d es ep:=let ⟨o,ho,q⟩:=r; ⟨o,k o ho,q⟩
theorem RawD.lt {h:Heap} (r:RawD h d es ep):d < h.objs.size:=let ⟨o,ho,q⟩:=r; Heap.lt_size ho
theorem raw_walks (hh : A.handled = none) (I : Addr) (hne : d ≠ I) : Walks prog w A I [I, d] [I] es.size (fun i v => ∃ hi : i < es.size, es[i].key = v) (fun i h => h.IsKeyIter I d i es.size ep ∧ RawD h d es ep) where
  sub := fun b hb => by have e : b = I := by simpa using hb
                        subst e; simp
  frame := fun _ _ _ st hk => ⟨st.1.at fun o e => hk I (by simp) o e, st.2.at fun o e => hk d (by simp) o e⟩
  item := fun i s Q E hi st q => raw_item st.1 st.2 hi fun h' st' sb => q _ h' s.toks ⟨hi, rfl⟩ ⟨st', st.2.at fun o e => (sb.2 d hne).trans e⟩ fun b o hb e => (sb.2 b fun z => hb (by simp [z])).trans e
  done := fun s Q E st q => raw_end hh st.1 st.2 (Nat.le_refl _) fun h' eb => q h' s.toks fun b o hb e => eb b o (fun z => hb (by simp [z])) e
  self := fun _ _ _ _ st q => wpAny_pyIter_keyiter st.1 q
theorem kdl_raw (lo:(d == sysModules)=false):PySem.W.KdlSrc prog w "dict" d d es.size (fun i v=>∃ hi:i < es.size,es[i].key=v) (fun h=>RawD h d es ep) where
 type:=fun _ r=>let ⟨o,ho,q⟩:=r; ⟨o,ho,q.1.1⟩
 there:=fun _ r=>⟨r.lt,r.lt⟩
 keep:=fun _ _ r hk=>r.at fun o e=>hk d (.inl rfl) o e
 notList:=by decide
 notTuple:=by decide
 hint:=fun _ _ _ _ r q=>PySem.W.kdl_hint_dict (let ⟨o,ho,z⟩:=r; ⟨o,ho,z.1.1⟩) q
 iter:=fun _ _ hh r=>⟨_,_,(fun _ _ q=>raw_iter lo r q),raw_walks hh _ (Nat.ne_of_lt r.lt),⟨⟨_,Heap.get?_push_size _ rfl,rfl,rfl⟩,r.at fun o e=>Heap.get?_push_of_some _ e⟩⟩
end
noncomputable def KeyTups (H:Hp) (as:List Addr) (kvs:List (List Key×V)):Prop:=Paired (fun (a:Addr) (kv:List Key×V)=>H a=some (.tup (kv.1.map kV))) as kvs
theorem keyTups_of {H:Hp}:∀ {kvs:List (List Key×V)} {xs:List (List Key×Addr×Value)},KT H kvs xs→KeyTups H (xs.map fun q=>q.2.1) kvs
 | [],_,r=>by cases r; exact .nil
 | p :: ps,_,r=>by
  cases r with
  | cons h t=>exact .cons h.2.1 (keyTups_of t)
theorem refs_vals:∀ (as:List Addr),Vals (as.map V.ref) (as.map Value.ref)
 | []=>.nil
 | _ :: as=>.cons rfl (refs_vals as)
section
variable {X:Cx}
theorem call_list_keysT (hc:X.calm=true):CallR X (.type "list") (fun xs H Q=>∃ (d:Addr) (kvs:List (List Key×V)),xs=[.ref d]∧Rd H d (.dT kvs)∧∀ l as,H l=none→KeyTups H as kvs→Q (.ref l) (upd H l (.lst (as.map V.ref)))):=by
 intro pins s σ H xs us Q I r h
 obtain ⟨d,kvs,rfl,hd,q⟩:=h
 obtain ⟨u,rfl,ru⟩:=vals1 r
 cases ru
 obtain ⟨z,y,ys,rel,o,es,ep,h1,h2,h3,h4,h5⟩:=(show ObjOk X.prog X.w H s.heap d (.dT kvs) from rd_of I.hok hd)
 have hl:es.size=kvs.length:=by rw [kt_len rel,← List.length_map (f:=entryOfKey (tupleKind (mixKind X.prog X.w))),← h4,Array.length_toList]
 refine PySem.W.kdl_call (kdl_raw (es:=es) (ep:=ep) y) (I.ok.hd hc) ⟨o,h1,h2,h3⟩ (by lia) fun h' tk acc c' kp hD hacc=>?_
 have ea:acc.toList=(ys.map fun q=>q.2.1).map Value.ref:=by
  refine List.ext_getElem? fun j=>?_
  by_cases hj:j < es.size
  ·have hj':j < acc.size:=by rw [hacc.1]; exact hj
   obtain ⟨_,e1⟩:=hacc.2 j acc[j] (by simp [hj'])
   obtain ⟨k,x,a,u,g1,g2,g3,g4⟩:=kt_at rel (hl ▸ hj)
   have e2:es.toList[j]?=some (entryOfKey (tupleKind (mixKind X.prog X.w)) (k,a,u)):=by rw [h4,List.getElem?_map,g2]; rfl
   have e3:es[j]?=some (entryOfKey (tupleKind (mixKind X.prog X.w)) (k,a,u)):=by rw [← Array.getElem?_toList]; exact e2
   obtain ⟨_,e4⟩:=Array.getElem?_eq_some_iff.mp e3
   have e5:acc[j]=.ref a:=by rw [← e1,e4]; rfl
   rw [List.getElem?_map,List.getElem?_map,g2,Array.getElem?_toList,Array.getElem?_eq_getElem hj',e5]; rfl
  ·have e1:acc.toList[j]?=none:=by rw [List.getElem?_eq_none]; rw [Array.length_toList,hacc.1]; lia
   rw [e1,List.getElem?_eq_none]; rw [List.length_map,List.length_map,← kt_len rel]; lia
 have new:ObjOk X.prog X.w (upd H s.heap.objs.size (.lst ((ys.map fun q=>q.2.1).map V.ref))) h' s.heap.objs.size (.lst ((ys.map fun q=>q.2.1).map V.ref)) :=
  ⟨by rw [List.length_map,List.length_map,← kt_len rel]; exact z,acc.toList,c',by rw [ea]; exact refs_vals _,by rw [Array.toArray_toList]; exact hD⟩
 exact ⟨.ref s.heap.objs.size,_,I.laid (t':=tk) kp (Nat.le_refl _) new,rfl,q _ _ (I.hok.fresh (Nat.le_refl _)) (keyTups_of rel)⟩
theorem is_kV {P:Program} {w:World} {k:Key} {u:Value} (r:(mixKind P w).is k u=true):RelV (kV k) u:=by
 rw [mixKind_is] at r
 cases k with
 | inl i=>exact Value.isInt_shape r
 | inr x=>exact Value.isStrOf_shape r
theorem call_list_keysK (hc:X.calm=true):CallR X (.type "list") (fun xs H Q=>∃ (d:Addr) (kvs:List (Key×V)),xs=[.ref d]∧Rd H d (.dK kvs)∧∀ l,H l=none→Q (.ref l) (upd H l (.lst (kvs.map fun kv=>kV kv.1)))):=by
 intro pins s σ H xs us Q I r h
 obtain ⟨d,kvs,rfl,hd,q⟩:=h
 obtain ⟨u,rfl,ru⟩:=vals1 r
 cases ru
 obtain ⟨z,y,vs,rel,dd⟩:=dk_rd I.hok hd
 obtain ⟨ep,da⟩:=dd.dictAt
 have hlen:kvs.length=vs.length:=Paired.length rel
 refine PySem.W.kdl_call (PySem.W.kdl_dict (knd:=mixKind X.prog X.w) (kvs:=vs) (ep:=ep) y) (I.ok.hd hc) da (by lia) fun h' tk acc c' kp hD hacc=>?_
 have rv:Vals (kvs.map fun kv=>kV kv.1) acc.toList:=by
  have key:∀ (ks:List (Key×V)) (ws:List (Key×Value)) (us:List Value),Paired (fun (p:Key×V) (q:Key×Value)=>p.1=q.1∧RelV p.2 q.2) ks ws→us.length=ws.length→(∀ (j:Nat) (v:Value),us[j]?=some v→∃ k x,ws[j]?=some (k,x)∧(mixKind X.prog X.w).is k v=true)→Vals (ks.map fun kv=>kV kv.1) us:=by
   intro ks
   induction ks with
   | nil=>intro ws us rr hl hh; cases rr; cases us with | nil=>exact .nil | cons _ _=>cases hl
   | cons p ks ih =>
    intro ws us rr hl hh
    cases rr with
    | @cons _ w' _ ws rr1 rr =>
     cases us with
     | nil=>cases hl
     | cons u us =>
      refine .cons ?_ (ih ws us rr (by simpa using hl) fun j v e=>by simpa using hh (j + 1) v (by simpa using e))
      obtain ⟨k,x,e1,e2⟩:=hh 0 u rfl
      simp only [List.getElem?_cons_zero,Option.some.injEq] at e1
      subst e1
      show RelV (kV p.1) u
      rw [rr1.1]
      exact is_kV e2
  refine key kvs vs acc.toList rel (by rw [Array.length_toList]; exact hacc.1) fun j v e=>hacc.2 j v (by rw [← Array.getElem?_toList]; exact e)
 have new:ObjOk X.prog X.w (upd H s.heap.objs.size (.lst (kvs.map fun kv=>kV kv.1))) h' s.heap.objs.size (.lst (kvs.map fun kv=>kV kv.1)) :=
  ⟨by rw [List.length_map]; exact z,acc.toList,c',rv,by rw [Array.toArray_toList]; exact hD⟩
 exact ⟨.ref s.heap.objs.size,_,I.laid (t':=tk) kp (Nat.le_refl _) new,rfl,q _ (I.hok.fresh (Nat.le_refl _))⟩
end
end L2
set_option Elab.async false
set_option linter.all false
set_option maxRecDepth 100000
set_option maxHeartbeats 4100000
namespace L2
open PySem PySem.Spec PyProof.Rows
theorem eqV_key (x y:Key):eqV (kV x) (kV y)=decide (x=y):=by
 cases x with
 | inl a=>cases y with
  | inl b =>
   show (a == b)=_
   by_cases c:a=b
   ·rw [c,beq_self_eq_true,decide_eq_true rfl]
   ·rw [beq_eq_false_iff_ne.mpr c,decide_eq_false fun e=>c (Sum.inl.inj e)]
  | inr b=>exact (decide_eq_false fun e=>nomatch e).symm
 | inr a=>cases y with
  | inl b=>exact (decide_eq_false fun e=>nomatch e).symm
  | inr b =>
   show (a == b)=_
   by_cases c:a=b
   ·rw [c,beq_self_eq_true,decide_eq_true rfl]
   ·rw [beq_eq_false_iff_ne.mpr c,decide_eq_false fun e=>c (Sum.inr.inj e)]
theorem flat_key (x:Key):flatV (kV x)=true:=by cases x <;> rfl
theorem all_keys (xs ys:List Key):((List.range (min xs.length ys.length)).all (fun i=>decide (xs[i]?=ys[i]?)) && xs.length == ys.length)=decide (xs=ys):=by
 by_cases c:xs=ys
 ·subst c; simp
 ·rw [decide_eq_false c]
  by_cases l:xs.length=ys.length
  ·have:¬ ((List.range (min xs.length ys.length)).all fun i=>decide (xs[i]?=ys[i]?))=true:=fun h=>by
    rw [List.all_eq_true] at h
    refine c (List.ext_getElem? fun i=>?_)
    by_cases hi:i < xs.length
    ·exact of_decide_eq_true (h i (List.mem_range.mpr (by lia)))
    ·rw [List.getElem?_eq_none (by lia),List.getElem?_eq_none (by lia)]
   rw [Bool.eq_false_iff.mpr this]; rfl
  ·rw [Bool.and_eq_false_iff]; exact .inr (by simpa using l)
theorem DC.keys {K:PySem.W.Frag} {H:Hp} {n:Nat} {a b:Addr} {xs ys:List Key} (ha:SqT K H a (xs.map kV)) (hb:SqT K H b (ys.map kV)):DC K H (n + 1) (.ref a) (.ref b) (decide (xs=ys)):=by
 have h:=DC.tup (n:=n) (fun i=>decide (xs[i]?=ys[i]?)) ha hb fun i x y hx hy=>by
  rw [List.getElem?_map] at hx hy
  cases ex:xs[i]? with
  | none=>rw [ex] at hx; cases hx
  | some x' =>
   cases ey:ys[i]? with
   | none=>rw [ey] at hy; cases hy
   | some y' =>
    rw [ex] at hx
    rw [ey] at hy
    cases hx
    cases hy
    have:=DC.flat (K:=K) (H:=H) (n:=n) (flat_key x') (flat_key y')
    rw [eqV_key] at this
    simpa using this
 rw [List.length_map,List.length_map,all_keys] at h
 exact h
theorem DT.keys {K:PySem.W.Frag} {H:Hp} {a b:Addr} {xs ys:List Key} (ha:SqT K H a (xs.map kV)) (hb:SqT K H b (ys.map kV)):DT K H a b (decide (xs=ys)):=by
 have h:=DT.tup (fun i=>decide (xs[i]?=ys[i]?)) ha hb fun i x y hx hy=>by
  rw [List.getElem?_map] at hx hy
  cases ex:xs[i]? with
  | none=>rw [ex] at hx; cases hx
  | some x' =>
   cases ey:ys[i]? with
   | none=>rw [ey] at hy; cases hy
   | some y' =>
    rw [ex] at hx
    rw [ey] at hy
    cases hx
    cases hy
    have:=DC.flat (K:=K) (H:=H) (n:=8) (flat_key x') (flat_key y')
    rw [eqV_key] at this
    simpa using this
 rw [List.length_map,List.length_map,all_keys] at h
 exact h
structure TKs (K:PySem.W.Frag) (H:Hp) (l:Addr) (ps:List TK):Prop where
 l:SqL K H l (ps.map fun q=>V.ref q.1)
 ts:∀ q∈ps,SqT K H q.1 (q.2.map kV)
theorem DT.lists {K:PySem.W.Frag} {H:Hp} {a b:Addr} {ps qs:List TK} (ha:TKs K H a ps) (hb:TKs K H b qs):DT K H a b (decide (ps.map (·.2)=qs.map (·.2))):=by
 by_cases l:ps.length=qs.length
 ·have h:=DT.lst (fun i=>decide ((ps.map (·.2))[i]?=(qs.map (·.2))[i]?)) ha.l hb.l (by rw [List.length_map,List.length_map]; exact l) fun i x y hx hy=>by
   rw [List.getElem?_map] at hx hy
   cases ex:ps[i]? with
   | none=>rw [ex] at hx; cases hx
   | some p =>
    cases ey:qs[i]? with
    | none=>rw [ey] at hy; cases hy
    | some q =>
     rw [ex] at hx
     rw [ey] at hy
     cases hx
     cases hy
     have:=DC.keys (n:=7) (ha.ts p (List.mem_of_getElem? ex)) (hb.ts q (List.mem_of_getElem? ey))
     rw [List.getElem?_map,List.getElem?_map,ex,ey]
     simpa using this
  have e:(List.range (ps.map fun q=>V.ref q.1).length).all (fun i=>decide ((ps.map (·.2))[i]?=(qs.map (·.2))[i]?))=decide (ps.map (·.2)=qs.map (·.2)):=by
   by_cases c:ps.map (·.2)=qs.map (·.2)
   ·rw [decide_eq_true c,c]; simp
   ·rw [decide_eq_false c,Bool.eq_false_iff]
    intro h
    rw [List.all_eq_true] at h
    refine c (List.ext_getElem? fun i=>?_)
    by_cases hi:i < ps.length
    ·exact of_decide_eq_true (h i (List.mem_range.mpr (by rw [List.length_map]; exact hi)))
    ·rw [List.getElem?_eq_none (by rw [List.length_map]; lia),List.getElem?_eq_none (by rw [List.length_map]; lia)]
  rw [e] at h
  exact h
 ·have c:ps.map (·.2)≠qs.map (·.2):=fun z=>l (by have:=congrArg List.length z; simpa using this)
  rw [decide_eq_false c]
  exact DT.len ha.l hb.l (by rw [List.length_map,List.length_map]; exact l)
section
variable {X:Cx}
theorem op_inT (hu:X.A.units + 10 < cLine):OpR X (compareOp .In) (fun x y H Q=>Ex_4_5 (fun (a l:Addr) (k:List Key) (ps:List TK)=>x=.ref a) (fun a l k ps=>y=.ref l) (fun a l k ps=>SqT X.K H a (k.map kV)) (fun a l k ps=>TKs X.K H l ps) (fun a l k ps=>Q (.bl (ps.any fun q=>decide (q.2=k))) H)):=by
 intro pins s σ H x y v u Q I rx ry h
 obtain ⟨a,l,k,ps,rfl,rfl,ha,hl,q⟩:=h
 cases rx
 cases ry
 obtain ⟨its,rv,pl,hz⟩:=I.list hl.l
 have e:=tk_vals rv
 subst e
 have inj:∀ p∈ps,∀ r∈ps,p.1=r.1→p.2=r.2:=fun p hp r hr z=>kVs_inj (I.tuple_inj (hl.ts p hp) (by rw [z]; exact hl.ts r hr))
 have ee:∀ p∈ps,(ps.any fun r=>r.1 == p.1 && decide (r.2=k))=decide (p.2=k):=fun p hp=>by
  by_cases c:p.2=k
  ·rw [decide_eq_true c,List.any_eq_true]
   exact ⟨p,hp,by simp [c]⟩
  ·rw [decide_eq_false c,Bool.eq_false_iff]
   intro z
   obtain ⟨r,hr,hz⟩:=List.any_eq_true.mp z
   rw [Bool.and_eq_true] at hz
   have e1:r.1=p.1:=by simpa using hz.1
   have e2:r.2=k:=by simpa using hz.2
   exact c ((inj r hr p hp e1).symm.trans e2)
 refine SeqAt.in_listAt (fun y=>match y with | .ref b=>ps.any fun r=>r.1 == b && decide (r.2=k) | _=>false) pl.isList (fun y hy=>?_) ?_
 ·rw [List.mem_toArray] at hy
  obtain ⟨p,hp,rfl⟩:=List.mem_map.mp hy
  show SeqAt.EqAt X.A.in1 s (.ref p.1) (.ref a) (ps.any fun r=>r.1 == p.1 && decide (r.2=k))
  rw [ee p hp]
  exact dc_at (DC.keys (n:=7) (hl.ts p hp) ha) I rfl rfl (by rw [in1_units]; lia)
 ·have e:((ps.map fun q=>Value.ref q.1).toArray.any fun y=>match y with | .ref b=>ps.any fun r=>r.1 == b && decide (r.2=k) | _=>false)=ps.any fun q=>decide (q.2=k):=by
   rw [List.any_toArray,List.any_map]
   have cong:∀ l:List TK,(∀ p∈l,p∈ps)→(l.any fun p=>ps.any fun r=>r.1 == p.1 && decide (r.2=k))=l.any fun q=>decide (q.2=k):=by
    intro l
    induction l with
    | nil=>intro _; rfl
    | cons p l ih =>
     intro hl
     rw [List.any_cons,List.any_cons,ee p (hl p (List.mem_cons_self ..)),ih fun r hr=>hl r (List.mem_cons_of_mem _ hr)]
   exact cong ps fun _ h=>h
  rw [e]
  exact ⟨.bl _,H,I,rfl,q⟩
end
noncomputable def cA (K:PySem.W.Frag) (x:Str):Addr:=match PySem.W.nsIn K mainGlobals x with
 | some (some (.ref a))=>a
 | _=>0
theorem cA_of {K:PySem.W.Frag} {x:Str} {C:Addr} (h:PySem.W.nsIn K mainGlobals x=some (some (.ref C))):cA K x=C:=by unfold cA; rw [h]
noncomputable def HasI (P:Program) (w:World) (K:PySem.W.Frag) (mg:Str→Option Value) (base:Heap) (k:Nat) (x:Str) (ps:List Str) (sp:Sp):Prop :=
 Ex_2_4 (fun (f:Addr) (fd:FuncData)=>FnOk P w K mg base CX0 k f fd ps sp) (fun f fd=>mg x=some (.ref (cA K x))) (fun f fd=>Mk K (cA K x) f) (fun f fd=>Binds K fd ps [])
section
variable {X:Cx} {k:Nat} {x m:Str} {ps:List Str} {sp:Sp} {p pos apos:Pos} {e o:Expr} {es:List Expr} {ta:TE} {t:TA}
theorem pe_mk0 (h:HasI X.prog X.w X.K X.mg X.base k x ps sp) (hr:Room (k + 1) X.A) (hg:Gl X x:=by rfl) (hdb:(x == ("__debug__":Str))=false:=by decide):PE X (.Call (.Name x p) [] [] pos) (tMake (cA X.K x) sp [] E0 tNil):=by
 obtain ⟨f,fd,F,hm,M,hb⟩:=h
 exact pe_make0 M F hr hg hm hb .nil pass0 hdb
end
theorem call_sorted_tupsK {X:Cx} {K:PySem.W.Frag} (hK:X.K=K):CallR X (.builtin "sorted") (fun xs H Q=>Ex_3_6 (fun (p:Addr) (ps:List TK) (sh:List Bool)=>xs=[.ref p]) (fun p ps sh=>SqL K H p (ps.map fun q=>V.ref q.1)) (fun p ps sh=>(∀ q∈ps,SqT K H q.1 (q.2.map kV)∧q.2.map kKind=sh)) (fun p ps sh=>sh≠[]) (fun p ps sh=>ps.length < 64) (fun p ps sh=>∀ (l:Addr) (ps':List TK),H l=none→ps'.Perm ps→RisesK ps'→Q (.ref l) (upd H l (.lst (ps'.map fun q=>V.ref q.1))))):=hK ▸ call_sorted_tups
theorem op_eqCK {X:Cx} {K:PySem.W.Frag} (hK:X.K=K) (hu:X.A.units + 10 < cLine):OpR X (compareOp .Eq) (fun x y H Q=>Ex_3_4 (fun a b k=>x=.ref a) (fun a b k=>y=.ref b) (fun a b k=>DT K H a b k) (fun a b k=>Q (.bl k) H)):=hK ▸ op_eqC hu
end L2
set_option Elab.async false
set_option linter.all false
set_option maxRecDepth 100000
set_option maxHeartbeats 4100000
namespace L2
open PySem PySem.Spec PyProof.Rows PySem.W PySem.Calls
noncomputable def Fair (n:Int):Prop:=Builtin.Int.intBits n≤2 ^ 20
theorem fair0:Fair 0:=by show Builtin.Int.intBits 0≤2 ^ 20; decide
noncomputable def CMulB (i j:Int):Prop:=CMul i j∨(Fair i∧Fair j)
theorem op_mulB {X:Cx}:OpR X (binaryOp .Mult) (rI CMulB fun i j=>.int (i * j)):=opI fun _ _ _ _ _ _ _ hc q=>mul_int q (by rcases hc with h | ⟨h1,h2⟩; exact h.ok; exact IntMulOk.of_bits h1 h2)
theorem attach_callB {l:OpenLaw} {n:Nat} {q:Program} {loose:List Str} {XP:(Str→Option Value)→Heap→Prop} {YP:World→Heap→Prop} {d:DefRec} (hn:l.most=some n) (hdf:d.params.defaults=[])
  (call:∀ (w:World) (s₀ s₁:Shared) (mg mb:Str→Option Value) (fa:Addr) (o:Obj) (pm cd doc:Value) (a:Addr) (vs:List Value) (ns:List Int),Ground q loose [] XP w s₀ mg mb s₁.heap→YP w s₁.heap →
   s₁.heap.get? fa=some o→o.data=.func (docDef d.name d.params d.body d.scope pm cd doc)→s₁.heap.CodeRec cd d.name→mg d.name=some (.ref fa) →
   s₁.heap.get? a=some { cls:=.type "list",data:=.seq vs.toArray }→IntsAre vs ns→ns.length≤n→(∀ i∈ns,Fair i)→s₁.gens=#[] →
   codeAny (model l.prog w) callerA (.call (.ref fa) ⟨[.ref a],[]⟩) (fun r s'=>r=.ok (.ret (.bool true))∧OldK s₁.heap s'.heap∧s'.os=s₁.os∧AllBare s'.gens) s₁) :
  WalkO q loose XP YP l.row.toRowW d [] (fun f vs=>PySem.call f vs):=by
 intro w s₀ s₁ mg mb G Y fa o pm cd doc dV kV ho hd hcd hD hmg hg args vals as hpre hlay hrd hwl hlo
 obtain rfl:dV=.none:=Dflts.none hD hdf
 obtain rfl:kV=.none:=Dflts.noKw hD
 obtain ⟨a,vs,ns,rfl,rfl,hobj,hints,hlen⟩:=Att.script_of hn hpre hwl
 have fair:∀ i∈ns,Fair i:=fun i hi=>by
  have h1:=layableW_item (layableW_arg hlay _ (List.mem_singleton.mpr rfl)) (WData.int i) (List.mem_map.mpr ⟨i,hi,rfl⟩)
  exact PyData.bits_of_layable (show PyData.layable0 (.int i)=true from h1)
 refine enter_call (codeAny_mono (call w s₀ s₁ mg mb fa o pm cd doc a vs ns G Y ho (fd_plain hd) hcd hmg hobj hints hlen fair hg) fun r s' hq=>?_)
 obtain ⟨rfl,h2,h3,h4⟩:=hq
 exact ⟨.inl ⟨.bool true,.bool true,[],rfl,fun _=>rfl,.bool true,Att.post_true l _,fun _=>⟨List.Pairwise.nil,fun _ hm=>(nomatch hm)⟩⟩,h2,h3,h4⟩
theorem walk_ofB {l:PySem.W.OpenLaw} {n k:Nat} {q:Program} {loose:List Str} {XP:(Str→Option Value)→Heap→Prop} {YP:World→Heap→Prop} {d:DefRec} {K:Params→PySem.W.Frag} {sp:World→Sp} {x:Str}
  (hn:l.most=some n) (hn2:n≤sizeLine) (hdf:d.params.defaults=[]) (hr:Room k callerA) (hY:∀ (w:World) (h:Heap),YP w h→(K w.params).In h)
  (F:∀ (w:World) (mg:Str→Option Value) (fa:Addr) (h:Heap),(K w.params).In h→h.Ns mainGlobals mg→mg d.name=some (.ref fa) →
   ∃ fd:FuncData,(∀ (s:Shared) (u:Value),BindsTo s fd ⟨[u],[]⟩ [(x,u)])∧∀ base:Heap,(K w.params).In base→base.Ns mainGlobals mg→FnOk l.prog w (K w.params) mg base CX0 k fa fd [x] (sp w))
  (hsp:∀ (w:World) (H:Hp) (a:Addr) (ns:List Int),ns.length≤n→(∀ i∈ns,Fair i)→SqL (K w.params) H a (ns.map V.int)→sp w [.ref a] H (fun v _=>v=.bl true) fun _ _ _=>False) :
  PySem.W.WalkO q loose XP YP l.row.toRowW d [] (fun f vs=>PySem.call f vs):=by
 refine attach_callB hn hdf fun w s₀ s₁ mg mb fa o pm cd doc a vs ns G Y ho hd hcd hmg hobj hints hlen fair hg=>?_
 have KX:=hY w _ Y
 obtain ⟨fd,hb,hF⟩:=F w mg fa _ KX G.T.g hmg
 exact law_call KX G.T.g G.T.b G.T.builtins G.T.nolimit hg hobj hints (Nat.le_trans hlen hn2) hr hF hb (fun H _ hS=>hsp w H a ns hlen fair hS) fun _ _ _ z=>z
theorem call_sorted_strs {X:Cx}:CallR X (.builtin "sorted") (fun xs H Q=>Ex_2_5 (fun (p:Addr) (ss:List Str)=>xs=[.ref p]) (fun p ss=>SqL X.K H p (ss.map V.str)) (fun p ss=>ss.length < 64) (fun p ss=>ss.Nodup) (fun p ss=>∀ (l:Addr) (us:List Str),H l=none→us.Perm ss→RisingT us→Q (.ref l) (upd H l (.lst (us.map V.str))))):=by
 intro pins s σ H xs us Q I r h
 obtain ⟨p,ss,rfl,hp,h64,hnd,q⟩:=h
 obtain ⟨u,rfl,ru⟩:=vals1 r
 cases ru
 obtain ⟨its,rv,pl,hz⟩:=I.list hp
 have hl:=rv.length
 rw [List.length_map] at hl
 refine sorted_strs pl.isList (strs_vals rv) (by lia) fun out ss' c1 c2 c3=>?_
 obtain ⟨ee,he⟩:=sortedAll_at s.heap its out
 have new:ObjOk X.prog X.w (upd H (s.heap.objs.size + 1) (.lst (ss'.map V.str))) (sortedAll s.heap its out) (s.heap.objs.size + 1) (.lst (ss'.map V.str)) :=
  ⟨by rw [List.length_map,c2.length_eq,sizeLine_eq]; lia,out.toList,ee,vals_strs c1,by rw [Array.toArray_toList]; exact he⟩
 exact ⟨.ref (s.heap.objs.size + 1),_,I.turnLay (t':=s.toks) (d':=s.drawn) (fp:=[]) (fun b hb=>nomatch hb) (Nat.le_succ _) (fun b ob _ z=>sortedAll_old z) new,rfl,q _ ss' (I.hok.fresh (Nat.le_succ _)) c2 (rising_of c3 (c2.nodup_iff.mpr hnd))⟩
end L2
set_option Elab.async false
set_option linter.all false
set_option maxRecDepth 100000
namespace L2
open PySem
theorem meetsLenT {prog:Program} {w:World} {d:Addr} (hd:(d == sysModules)=false):MeetsIn prog w (Builtin.«dict.__len__» ⟨[.ref d],[]⟩) (fun _ R s=>Ex_4_4 (fun (n:Nat) (o:Obj) (es:Array DictEntry) (ep:Nat)=>s.heap.get? d=some o) (fun n o es ep=>o.data=.dict es ep) (fun n o es ep=>es.size=n) (fun n o es ep=>R (.ok (.ret (.int n s.toks))) { s with toks:=s.toks + 1 })) :=
 .of_wp fun A R s ⟨n,o,es,ep,ho,hdat,hsz,h⟩=>by
  show wpAny _ _ (dictSize d >>= _) _ _ s; unfold dictSize; refine wpAny_bind (wpAny_bind (wpAny_dictEntries ho hdat (wpAny_pure ?_))); show wpAny _ _ (Builtin.Dict.pendingCount d >>= _) _ _ s
  refine wpAny_bind (wpAny_pendingCount_other hd ?_); refine wpAny_ret_mkInt ?_; rw [Nat.add_zero,hsz]; exact h
theorem lenT_body {prog:Program} {w:World} {A:Around} {E:Value→Shared→Prop} {s:Shared} {d:Addr} {n:Nat} {o:Obj} {es:Array DictEntry} {ep:Nat} {Q:Value→Shared→Prop} (hd:(d == sysModules)=false) (ho:s.heap.get? d=some o) (hx:o.ExactDict) (hdat:o.data=.dict es ep) (hn:es.size=n) (hfit:(n:Int) < 2 ^ 63)
  (h:Q (.int n (s.toks + 1)) { s with toks:=s.toks + 1 + 1 }):wpAny (model prog w) A (Builtin.«len» ⟨[.ref d],[]⟩) (fun fin s'=>∃ r,fin=.done (.ret r)∧Q r s') E s:=by
 have ty:s.TypeIs (.ref d) "dict":=⟨o,ho,hx.1⟩
 unfold Builtin.«len»; refine wpAny_bind (m:=oneArg "len" _) (wpAny_pure ?_)
 refine wpAny_bind (m:=callSpecial? (.ref d) (Str.ofString "__len__")) (wpAny_callSpecial?_slot (name:=Str.ofString "__len__") ty F.slot_dict_len (call_meetsIn F.slot_dict_len ty F.entry_dict_len (F.args_dict_len_1 _) (meetsLenT hd) ⟨n,o,es,ep,ho,hdat,hn,?_⟩))
 show wpAny _ _ _ _ _ { s with toks:=s.toks + 1 }; refine wpAny_bind (wpAny_holding (wpAny_pure ?_)); refine wpAny_bind (wpAny_letGo ?_)
 show wpAny _ _ (if ((n:Nat):Int) < 0 then _ else _) _ _ _; rw [if_neg (by lia)]
 show wpAny _ _ (if ((n:Nat):Int) ≥ 2 ^ 63 then _ else _) _ _ _; rw [if_neg (by lia)]
 exact wpAny_bind (wpAny_mkInt (wpAny_pure ⟨_,rfl,h⟩))
theorem call_lenT {X:Cx}:CallR X (.builtin "len") (fun xs H Q=>Ex_2_3 (fun a kvs=>xs=[V.ref a]) (fun a kvs=>H a=some (.dT kvs)) (fun a kvs=>Q (.int kvs.length) H)):=by
 intro pins s σ H xs us Q I r h
 obtain ⟨a,kvs,rfl,ha,q⟩:=h
 obtain ⟨u,rfl,ru⟩:=vals1 r
 cases ru
 obtain ⟨z,hd,ts,rel,o,es,ep,ho,hx,hdat,he,_⟩:=dt_of I.hok ha
 have hl:es.size=kvs.length:=by rw [size_of_entries he,rel.length]
 refine Calls.call_function_entry kind_len plain_len entry_len (args_len1 _) (lenT_body hd ho hx hdat hl (by rw [sizeLine_eq] at z; lia) ?_)
 exact ⟨.int kvs.length,H,I.tok _,⟨_,rfl⟩,q⟩
end L2
set_option linter.all false
namespace L2
open PySem PySem.W
theorem walkX {q:PySem.Program} {loose:List PySem.Str} {XP:(PySem.Str→Option PySem.Value)→PySem.Heap→Prop} {r:RowW} {d:DefRec} {K:PySem.Params→PySem.W.Frag} {as:List PySem.Addr} {n t:Nat} {run:PySem.Value→List PySem.Value→PySem.Sem PySem.Value}
  (e:∀ P,as=(K P).map (·.1)) (H:PySem.W.WalkO q loose XP (fun w h=>(K w.params).In h) r d [] run):PySem.W.WalkX q loose XP (PySem.W.X.obsZ as) (PySem.W.X.valZ K n t) r d [] run:=by
 intro w s₀ s₁ mg mb G y a o pm cd doc dV kV ho hd hcd hD hmg hg args vals as' L hpre hlay hrd hwl hlo
 exact H w s₀ s₁ mg mb G (PySem.W.InK.keeps w _ _ (PySem.W.X.z_facts e y).2.1 L.keeps) a o pm cd doc dV kV ho hd hcd hD hmg hg args vals as' hpre hlay hrd hwl hlo
end L2
set_option Elab.async false
set_option linter.all false
set_option maxRecDepth 100000
namespace L2
open PySem PySem.Spec PyProof.Rows
theorem comp_enum {K:PySem.W.Frag} {a D:Addr} {xs:List V} {g:TG} {tt:TT} {te:TE} {σc:St} {H:Hp} {F:Hp→Prop} (Pv:Nat→St→List V→Hp→Prop) (h0:Pv 0 σc [] (upd H D (.lst [])))
  (hl:∀ i σ zs H,i≤xs.length→Pv i σ zs H→SqL K H a xs∧H D=some (.lst zs)∧zs.length≤i) (hz:xs.length≤sizeLine)
  (hs:∀ i x σ zs H p,xs[i]?=some x→Pv i σ zs H→H p=none→g (.ref p) σ (upd H p (.tup [.int i,x])) fun σ2 H2=>tt σ2 H2 fun b H3=>if b=true then te σ2 H3 fun y H4=>H4 D=some (.lst zs)∧Pv (i + 1) σ2 (zs ++ [y]) (upd H4 D (.lst (zs ++ [y]))) else Pv (i + 1) σ2 zs H3)
  (hd:∀ σ zs H,Pv xs.length σ zs H→F H):tLoopC g tt te σc D (Ite K a) H F:=by
 refine ⟨fun i m σ zs H=>m=xs.length - i∧i≤xs.length∧Pv i σ zs H,⟨xs.length,by simp,Nat.zero_le _,h0⟩,?_⟩
 rintro i m σ zs H ⟨rfl,hi,p⟩
 obtain ⟨q,hD,hy⟩:=hl i σ zs H hi p
 refine ⟨hD,?_⟩
 by_cases hlt:i < xs.length
 ·refine .inr ⟨⟨xs,xs[i],q,by simp [hlt]⟩,by lia,Pv (i + 1),fun σ' zs' H' p'=>⟨xs.length - (i + 1),by lia,rfl,hlt,p'⟩,fun v H' y=>?_⟩
  obtain ⟨pp,x,rfl,hn,hx,rfl⟩:=y
  exact hs i x σ zs H pp (hx xs q) p hn
 ·have e:i=xs.length:=by lia
  subst e
  exact .inl ⟨⟨xs,q,Nat.le_refl _⟩,hd σ zs H p⟩
end L2
set_option Elab.async false
set_option linter.all false
set_option maxRecDepth 100000
set_option maxHeartbeats 4100000
namespace L2
open PySem PySem.Spec PyProof.Rows
section
variable {X:Cx}
end
end L2
set_option Elab.async false
set_option linter.all false
set_option maxRecDepth 100000
set_option maxHeartbeats 4100000
namespace L2
open PySem PySem.Spec PyProof.Rows
section
variable {prog:Program} {w:World} {A:Around} {E:Value→Shared→Prop} {s:Shared}
theorem nextOf_tup_end {it t:Addr} {i:Nat} {zs:Array Value} {Q:Value→Shared→Prop} (hh:A.handled=none) (g:s.heap.IsTupleIter it t i) (gt:s.heap.IsTuple t zs) (gy:zs[i]?=none)
  (q:∀ h' e,Heap.ExtBut it s.heap h'→(∃ o,h'.get? e=some o∧o.cls=.type "StopIteration")→E (.ref e) { s with heap:=h' }):wpAny (model prog w) A (Builtin.SmallTypes.nextOf (.ref it)) Q E s:=by
 obtain ⟨o,e1,c1,d1⟩:=id g
 obtain ⟨oo,e2,_,m,d2⟩:=gt
 unfold Builtin.SmallTypes.nextOf
 refine wpAny_bind (wpAny_callSpecial?_slot (name:=Str.ofString "__next__") g.typeIs F.slot_tuple_iterator_next (wpAny_call_entry F.slot_tuple_iterator_next g.typeIs F.entry_tuple_iterator_next ?_ (F.args_tuple_iterator_next_1 _)))
 show wpAny _ _ (field (.ref it) 0 >>= _) _ _ s; refine wpAny_bind (wpAny_field e1 d1 (x:=.ref t) rfl ?_)
 show wpAny _ _ (if (Value.ref t == Value.none)=true then _ else _) _ _ s; rw [if_neg (show ¬ ((Value.ref t == Value.none)=true) from Bool.false_ne_true)]
 show wpAny _ _ (field (.ref it) 1 >>= _) _ _ s; refine wpAny_bind (wpAny_field e1 d1 (x:=.int i 0) rfl ?_)
 show wpAny _ _ (seqItems? (.ref t) >>= _) _ _ s; refine wpAny_bind (wpAny_seqItems e2 d2 ?_)
 rw [Int.toNat_natCast]; dsimp only; rw [gy]; refine wpAny_bind (wpAny_rule (wpAny_bind (wpAny_setField e1 d1 (by simp) ?_)))
 show wpAny _ _ (newExc (.type "StopIteration") [] >>= _) _ _ _; refine wpAny_bind ?_
 unfold newExc newTuple; refine wpAny_bind (wpAny_newObj_type ?_ (by size_fits))
 refine wpAny_bind (m:=firstArgMember _ _) (wpAny_of_eq (a:=Value.none) (by first | rfl | (simp only [firstArgMember]; rfl)) ?_); refine wpAny_newObj_type ?_ (by size_fits)
 refine wpAny_raiseNew_none (by first | exact hh | (show A.in1.handled=none; exact hh)) ?_
 exact q _ _ (((Heap.SameBut.update ..).extBut.push _).push _) ⟨_,Heap.get?_push_size _ rfl,rfl⟩
theorem zipU_item {z TI TO i1 i2 l t:Addr} {k1 k2:Nat} {xs ys:Array Value} {x y a b:Value} {Q:Value→Shared→Prop} (D:ZipApart z TI TO i1 i2 l t)
  (gz:IsZip s.heap z TI TO .none) (gI:IsPair s.heap TI (.ref i1) (.ref i2)) (gO:IsPair s.heap TO a b) (g1:s.heap.IsTupleIter i1 l k1) (g2:s.heap.IsListIter i2 t k2) (gl:s.heap.IsTuple l xs) (gt:s.heap.IsList t ys) (ex:xs[k1]?=some x) (ey:ys[k2]?=some y)
  (q:∀ h',IsZip h' z TI TO (rawInt s.heap.objs.size)→IsPair h' TO x y→h'.IsTupleIter i1 l (k1 + 1)→h'.IsListIter i2 t (k2 + 1)→IsPair h' s.heap.objs.size x y→h'.objs.size=s.heap.objs.size + 1 →
   (∀ c o,c≠z→c≠TO→c≠i1→c≠i2→s.heap.get? c=some o→h'.get? c=some o)→Q (.ref s.heap.objs.size) { s with heap:=h' }) :
  wpAny (model prog w) A (Builtin.«zip.__next__» ⟨[.ref z],[]⟩) (fun fin s'=>∃ v,fin=.done (.ret v)∧Q v s') E s:=by
 show wpAny _ _ (field (.ref z) 2 >>= _) _ _ _; refine wpAny_bind (wpAny_field gz rfl (x:=.bool false) rfl ?_)
 show wpAny _ _ (field (.ref z) 3 >>= _) _ _ _; refine wpAny_bind (wpAny_field gz rfl (x:=.ref TI) rfl (wpAny_bind (wpAny_seqItems gI rfl ?_)))
 show wpAny _ _ (Builtin.SmallTypes.ownedTupleIsFree (.ref z) >>= _) _ _ _; refine wpAny_bind ?_
 unfold Builtin.SmallTypes.ownedTupleIsFree; refine wpAny_bind (wpAny_field gz rfl (x:=.none) rfl (wpAny_pure ?_))
 simp only [if_true]; refine wpAny_bind (wpAny_rule (wpAny_bind (wpAny_field gz rfl (x:=.ref TO) rfl (wpAny_bind (wpAny_setField_rec gz (by simp) fun ha za sa=>?_)))))
 replace za:IsZip ha z TI TO .ellipsis:=za
 refine wpAny_bind ?_; simp only [List.zipIdx_cons,List.zipIdx_nil,List.forIn_cons,List.forIn_nil]
 refine wpAny_bind (wpAny_bind (wpAny_onRaise ?_)); show wpAny _ _ (Builtin.SmallTypes.nextOf (.ref i1) >>= _) _ _ _
 refine wpAny_bind (nextOf_tup (s:={ s with heap:=ha }) (g1.at fun o e=>sa.extBut _ _ D.i1z e) (gl.at fun o e=>sa.extBut _ _ D.l1z e) ex fun hb b1 sb=>wpAny_pure ?_)
 have Ob:IsPair hb TO a b:=sb.extBut _ _ D.TOi1 (sa.extBut _ _ D.TOz gO)
 refine wpAny_bind (wpAny_seqItems Ob rfl (wpAny_bind (wpAny_updateSeq_pair Ob fun hc Oc sc=>?_)))
 replace Oc:IsPair hc TO x b:=Oc
 refine wpAny_bind (wpAny_letGo (wpAny_pure (wpAny_bind (wpAny_bind (wpAny_onRaise ?_))))); show wpAny _ _ (Builtin.SmallTypes.nextOf (.ref i2) >>= _) _ _ _
 have g2c:hc.IsListIter i2 t k2:=((g2.extBut sa.extBut D.i2z).extBut sb.extBut D.i12.symm).extBut sc.extBut D.TOi2.symm
 have gtc:hc.IsList t ys:=((gt.extBut sa.extBut D.l2z).extBut sb.extBut D.l2i1).extBut sc.extBut D.l2TO
 refine wpAny_bind (wpAny_nextOf_list_item (s:={ s with heap:=hc }) g2c gtc ey fun hd d2 sd=>wpAny_pure ?_)
 have Od:IsPair hd TO x b:=sd.extBut _ _ D.TOi2 Oc
 refine wpAny_bind (wpAny_seqItems Od rfl (wpAny_bind (wpAny_updateSeq_pair Od fun he Oe se=>?_)))
 replace Oe:IsPair he TO x y:=Oe
 refine wpAny_bind (wpAny_letGo (wpAny_pure (wpAny_pure (wpAny_bind (wpAny_seqItems Oe rfl (wpAny_bind (wpAny_newTuple ?_)))))))
 have sz:he.objs.size=s.heap.objs.size:=by rw [se.1,sd.1,sc.1,sb.1,sa.1]
 have ze:IsZip he z TI TO .ellipsis:=se.extBut _ _ D.TOz.symm (sd.extBut _ _ D.i2z.symm (sc.extBut _ _ D.TOz.symm (sb.extBut _ _ D.i1z.symm za)))
 have ke:∀ c o,c≠z→c≠TO→c≠i1→c≠i2→s.heap.get? c=some o→he.get? c=some o:=fun c o n1 n2 n3 n4 e =>
  se.extBut _ _ n2 (sd.extBut _ _ n4 (sc.extBut _ _ n2 (sb.extBut _ _ n3 (sa.extBut _ _ n1 e))))
 have e1:he.IsTupleIter i1 l (k1 + 1):=b1.at fun o e=>se.extBut _ _ D.TOi1.symm (sd.extBut _ _ D.i12 (sc.extBut _ _ D.TOi1.symm e))
 have e2:he.IsListIter i2 t (k2 + 1):=d2.extBut se.extBut D.TOi2.symm
 have zlt:z < he.objs.size:=Heap.lt_size ze
 show wpAny _ _ (Builtin.SmallTypes.ownedTupleHandOut (.ref z) (.ref he.objs.size) >>= _) _ _ _; refine wpAny_bind ?_
 unfold Builtin.SmallTypes.ownedTupleHandOut
 have zf:IsZip (he.push { cls:=.type "tuple",data:=.seq #[x,y] }) z TI TO .ellipsis:=Heap.get?_push_of_some _ ze
 refine wpAny_bind (wpAny_setField_rec zf (by simp) fun hg zg sg=>?_)
 replace zg:IsZip hg z TI TO (rawInt he.objs.size):=zg
 refine wpAny_setField_rec zg (by simp) fun hi zi si=>?_
 replace zi:IsZip hi z TI TO (rawInt he.objs.size):=zi
 have up:∀ c o,c≠z→he.get? c=some o→hi.get? c=some o:=fun c o n1 e=>si.extBut _ _ n1 (sg.extBut _ _ n1 (Heap.get?_push_of_some _ e))
 have Ti:IsPair hi he.objs.size x y:=si.extBut _ _ (Nat.ne_of_gt zlt) (sg.extBut _ _ (Nat.ne_of_gt zlt) (Heap.get?_push_size _ rfl))
 have zsz:hi.objs.size=he.objs.size + 1:=by rw [si.1,sg.1,Heap.size_push]
 rw [sz] at zi Ti zsz
 refine wpAny_pure ⟨_,rfl,?_⟩
 show Q (.ref he.objs.size) _; rw [sz]
 exact q hi zi (up _ _ D.TOz Oe) (e1.at fun o e=>up _ o D.i1z e) (e2.at fun o e=>up _ o D.i2z e) Ti zsz fun c o n1 n2 n3 n4 e=>up c o n1 (ke c o n1 n2 n3 n4 e)
theorem zipU_end {z TI TO i1 i2 l t:Addr} {k1:Nat} {xs:Array Value} {a b:Value} {Q:Fin→Shared→Prop} (hh:A.handled=none) (D:ZipApart z TI TO i1 i2 l t)
  (gz:IsZip s.heap z TI TO .none) (gI:IsPair s.heap TI (.ref i1) (.ref i2)) (gO:IsPair s.heap TO a b) (g1:s.heap.IsTupleIter i1 l k1) (gl:s.heap.IsTuple l xs) (ex:xs[k1]?=none)
  (q:∀ h' e,(∀ c o,c≠z→c≠TO→c≠i1→c≠i2→s.heap.get? c=some o→h'.get? c=some o)→(∃ o,h'.get? e=some o∧o.cls=.type "StopIteration")→E (.ref e) { s with heap:=h' }) :
  wpAny (model prog w) A (Builtin.«zip.__next__» ⟨[.ref z],[]⟩) Q E s:=by
 show wpAny _ _ (field (.ref z) 2 >>= _) _ _ _; refine wpAny_bind (wpAny_field gz rfl (x:=.bool false) rfl ?_)
 show wpAny _ _ (field (.ref z) 3 >>= _) _ _ _; refine wpAny_bind (wpAny_field gz rfl (x:=.ref TI) rfl (wpAny_bind (wpAny_seqItems gI rfl ?_)))
 show wpAny _ _ (Builtin.SmallTypes.ownedTupleIsFree (.ref z) >>= _) _ _ _; refine wpAny_bind ?_
 unfold Builtin.SmallTypes.ownedTupleIsFree; refine wpAny_bind (wpAny_field gz rfl (x:=.none) rfl (wpAny_pure ?_))
 simp only [if_true]; refine wpAny_bind (wpAny_rule (wpAny_bind (wpAny_field gz rfl (x:=.ref TO) rfl (wpAny_bind (wpAny_setField_rec gz (by simp) fun ha za sa=>?_)))))
 replace za:IsZip ha z TI TO .ellipsis:=za
 refine wpAny_bind ?_; simp only [List.zipIdx_cons,List.zipIdx_nil,List.forIn_cons,List.forIn_nil]
 refine wpAny_bind (wpAny_bind (wpAny_onRaise ?_)); show wpAny _ _ (Builtin.SmallTypes.nextOf (.ref i1) >>= _) _ _ _
 refine wpAny_bind (nextOf_tup_end (s:={ s with heap:=ha }) hh (g1.at fun o e=>sa.extBut _ _ D.i1z e) (gl.at fun o e=>sa.extBut _ _ D.l1z e) ex fun hb e sb he=>?_)
 obtain ⟨oe,eo,ec⟩:=he
 have zb:IsZip hb z TI TO .ellipsis:=sb _ _ D.i1z.symm za
 have ne:e≠z:=fun j=>by subst j; rw [zb] at eo; cases eo; simp at ec
 exact wpAny_setField_rec zb (by simp) fun hc _ sc=>q hc e (fun c o n1 _ n3 _ j=>sc.extBut _ _ n1 (sb _ _ n3 (sa.extBut _ _ n1 j))) ⟨oe,sc.extBut _ _ ne eo,ec⟩
theorem next_zipU {z TI TO i1 i2 l t:Addr} {k1 k2:Nat} {xs ys:Array Value} {x y a b:Value} {Q:Option Value→Shared→Prop} (D:ZipApart z TI TO i1 i2 l t)
  (gz:IsZip s.heap z TI TO .none) (gI:IsPair s.heap TI (.ref i1) (.ref i2)) (gO:IsPair s.heap TO a b) (g1:s.heap.IsTupleIter i1 l k1) (g2:s.heap.IsListIter i2 t k2) (gl:s.heap.IsTuple l xs) (gt:s.heap.IsList t ys) (ex:xs[k1]?=some x) (ey:ys[k2]?=some y)
  (q:∀ h',IsZip h' z TI TO (rawInt s.heap.objs.size)→IsPair h' TO x y→h'.IsTupleIter i1 l (k1 + 1)→h'.IsListIter i2 t (k2 + 1)→IsPair h' s.heap.objs.size x y→h'.objs.size=s.heap.objs.size + 1 →
   (∀ c o,c≠z→c≠TO→c≠i1→c≠i2→s.heap.get? c=some o→h'.get? c=some o)→Q (some (.ref s.heap.objs.size)) { s with heap:=h' }):wpAny (model prog w) A (pyNext (.ref z)) Q E s:=by
 have T:s.TypeIs (.ref z) "zip":=⟨_,gz,rfl⟩
 unfold pyNext
 exact wpAny_bind (wpAny_attempt (wpAny_callSpecial?_slot (name:=Str.ofString "__next__") T F.slot_zip_next (wpAny_call_entry F.slot_zip_next T F.entry_zip_next (zipU_item D gz gI gO g1 g2 gl gt ex ey fun h' a1 a2 a3 a4 a5 a6 a7=>wpAny_pure (q h' a1 a2 a3 a4 a5 a6 a7)) (F.args_zip_next_1 _))))
theorem next_zipU_end {z TI TO i1 i2 l t:Addr} {k1:Nat} {xs:Array Value} {a b:Value} {Q:Option Value→Shared→Prop} (hh:A.handled=none) (D:ZipApart z TI TO i1 i2 l t)
  (gz:IsZip s.heap z TI TO .none) (gI:IsPair s.heap TI (.ref i1) (.ref i2)) (gO:IsPair s.heap TO a b) (g1:s.heap.IsTupleIter i1 l k1) (gl:s.heap.IsTuple l xs) (ex:xs[k1]?=none)
  (q:∀ h',(∀ c o,c≠z→c≠TO→c≠i1→c≠i2→s.heap.get? c=some o→h'.get? c=some o)→Q none { s with heap:=h' }):wpAny (model prog w) A (pyNext (.ref z)) Q E s:=by
 have T:s.TypeIs (.ref z) "zip":=⟨_,gz,rfl⟩
 unfold pyNext
 refine wpAny_bind (wpAny_attempt (wpAny_callSpecial?_slot (name:=Str.ofString "__next__") T F.slot_zip_next (wpAny_call_entry F.slot_zip_next T F.entry_zip_next (zipU_end hh D gz gI gO g1 gl ex fun h' e k he=>?_) (F.args_zip_next_1 _))))
 obtain ⟨o,ho,hc⟩:=he
 exact wpAny_bind (wpAny_isInstance (T:="StopIteration") (b:=true) ⟨o,ho,hc⟩ isSubtype_stop (wpAny_pure (q _ k)))
end
noncomputable abbrev zu1 (h:Heap) (l:Addr):Heap:=h.push { cls:=.type "tuple_iterator",data:=.fields #[.ref l,.int 0 0] }
noncomputable abbrev zu2 (h:Heap) (l t:Addr):Heap:=(zu1 h l).push { cls:=.type "list_iterator",data:=.fields #[.ref t,.int 0 0] }
noncomputable abbrev zu3 (h:Heap) (l t:Addr):Heap:=(zu2 h l t).push { cls:=.type "tuple",data:=.seq #[.ref h.objs.size,.ref (zu1 h l).objs.size] }
noncomputable abbrev zu4 (h:Heap) (l t:Addr):Heap:=(zu3 h l t).push { cls:=.type "tuple",data:=.seq #[.none,.none] }
noncomputable abbrev zu5 (h:Heap) (l t:Addr):Heap:=(zu4 h l t).push { cls:=.type "zip",data:=.fields #[.none,.bool false,.bool false,.ref (zu2 h l t).objs.size,.ref (zu3 h l t).objs.size] }
theorem zipU_new (l t:Addr) (xs ys:Array Value):Meets (Builtin.«zip.__new__» ⟨[.type "zip",.ref l,.ref t],[]⟩) (fun _ R s=>s.heap.IsTuple l xs∧s.heap.IsList t ys∧R (.ok (.ret (.ref (zu4 s.heap l t).objs.size))) { s with heap:=zu5 s.heap l t }) :=
 .of_wp fun prog w A R s h=>by
  obtain ⟨hp,g,d,tk,os⟩:=s
  obtain ⟨hl,ht,h⟩:=h
  have hsub:=sub_zip
  have L1:Heap.IsTuple (Shared.heap ⟨hp,g,d,tk,os⟩) l xs:=hl
  have L2':Heap.IsList (Shared.heap ⟨hp.push { cls:=.type "tuple_iterator",data:=.fields #[.ref l,.int 0 0] },g,d,tk,os⟩) t ys:=ht.at fun o e=>Heap.get?_push_of_some _ e
  wp_walk using wpAny_pyIter_tuple L1,wpAny_pyIter_list L2'
  exact ⟨_,rfl,h⟩
section
variable {prog:Program} {w:World} {A:Around} {E:Value→Shared→Prop} {s:Shared}
theorem call_zipU {l t:Addr} {xs ys:Array Value} {Q:Value→Shared→Prop} (hl:s.heap.IsTuple l xs) (ht:s.heap.IsList t ys)
  (q:∀ h',IsZip h' (s.heap.objs.size + 4) (s.heap.objs.size + 2) (s.heap.objs.size + 3) .none→IsPair h' (s.heap.objs.size + 2) (.ref s.heap.objs.size) (.ref (s.heap.objs.size + 1)) →
   IsPair h' (s.heap.objs.size + 3) .none .none→h'.IsTupleIter s.heap.objs.size l 0→h'.IsListIter (s.heap.objs.size + 1) t 0→(∀ c o,s.heap.get? c=some o→h'.get? c=some o)→Q (.ref (s.heap.objs.size + 4)) { s with heap:=h' }) :
  wpAny (model prog w) A (call (.type "zip") [.ref l,.ref t]) Q E s:=by
 refine callType_new F.called_zip (by decide) (F.typeCall_zip_2 _ _) (F.newCall_zip_2 _ _) (fun obj=>F.args_object_init_3 obj _ _) F.entry_zip_new (zipU_new l t xs ys) ⟨hl,ht,?_⟩
 have z1:(zu1 s.heap l).objs.size=s.heap.objs.size + 1:=Heap.size_push ..
 have z2:(zu2 s.heap l t).objs.size=s.heap.objs.size + 2:=by rw [Heap.size_push,z1]
 have z3:(zu3 s.heap l t).objs.size=s.heap.objs.size + 3:=by rw [Heap.size_push,z2]
 have z4:(zu4 s.heap l t).objs.size=s.heap.objs.size + 4:=by rw [Heap.size_push,z3]
 have p5:(zu5 s.heap l t).get? (zu4 s.heap l t).objs.size=some _:=Heap.get?_push_size _ rfl
 have p4:(zu5 s.heap l t).get? (zu3 s.heap l t).objs.size=some _:=Heap.get?_push_of_some _ (Heap.get?_push_size _ rfl)
 have p3:(zu5 s.heap l t).get? (zu2 s.heap l t).objs.size=some _:=Heap.get?_push_of_some _ (Heap.get?_push_of_some _ (Heap.get?_push_size _ rfl))
 have p2:(zu5 s.heap l t).get? (zu1 s.heap l).objs.size=some _:=Heap.get?_push_of_some _ (Heap.get?_push_of_some _ (Heap.get?_push_of_some _ (Heap.get?_push_size _ rfl)))
 have p1:(zu5 s.heap l t).get? s.heap.objs.size=some _:=Heap.get?_push_of_some _ (Heap.get?_push_of_some _ (Heap.get?_push_of_some _ (Heap.get?_push_of_some _ (Heap.get?_push_size _ rfl))))
 show _∧_
 rw [z2,z3,z4] at p5
 rw [z1,z2] at p3
 rw [z3] at p4
 rw [z1] at p2
 rw [z4]
 exact ⟨⟨_,p5,rfl⟩,q _ p5 p3 p4 ⟨_,p1,rfl,rfl⟩ ⟨_,p2,rfl,rfl⟩ fun c o j=>Heap.get?_push_of_some _ (Heap.get?_push_of_some _ (Heap.get?_push_of_some _ (Heap.get?_push_of_some _ (Heap.get?_push_of_some _ j))))⟩
end
noncomputable def Izu (K : PySem.W.Frag) (a b : Addr) : It :=
  ⟨fun i H => Ex_4_4 (fun xs ys x y => SqT K H a xs) (fun xs ys x y => SqL K H b ys) (fun xs ys x y => xs[i]? = some x) (fun xs ys x y => ys[i]? = some y),
   fun i H v H' => Ex_3_5 (fun p x y => v = .ref p) (fun p x y => H p = none) (fun p x y => (∀ xs, SqT K H a xs → xs[i]? = some x)) (fun p x y => (∀ ys, SqL K H b ys → ys[i]? = some y)) (fun p x y => H' = upd H p (.tup [x, y])),
   fun i H => ∃ xs, SqT K H a xs ∧ xs.length ≤ i⟩
theorem turn_zipU {P:Program} {w:World} {K:PySem.W.Frag} {elts:List Expr} {kk:Nat} {tpos:Pos} {a b z TI TO i1 i2:Addr} (D:ZipApart z TI TO i1 i2 a b) :
  Turn P w K (.Tuple elts kk tpos) (Izu K a b) [z,TI,TO,i1,i2] z (fun i h=>IsZip h z TI TO .none∧IsPair h TI (.ref i1) (.ref i2)∧(Ex_2_1 (fun u v=>IsPair h TO u v))∧h.IsTupleIter i1 a i∧h.IsListIter i2 b i) where
 mem:=by simp
 obj:=fun i h st c hc=>by
  obtain ⟨s1,s2,⟨u,v,s3⟩,⟨o4,s4,_,d4⟩,⟨o5,s5,_,d5⟩⟩:=st
  simp only [List.mem_cons,List.not_mem_nil,or_false] at hc
  rcases hc with rfl | rfl | rfl | rfl | rfl
  ·exact ⟨_,s1,fun v q=>by cases q⟩
  ·exact ⟨_,s2,fun v q=>by cases q⟩
  ·exact ⟨_,s3,fun v q=>by cases q⟩
  ·exact ⟨o4,s4,fun v q=>by rw [d4] at q; cases q⟩
  ·exact ⟨o5,s5,fun v q=>by rw [d5] at q; cases q⟩
 keep:=fun i h h' st k=>by
  obtain ⟨s1,s2,⟨u,v,s3⟩,s4,s5⟩:=st
  exact ⟨k z (by simp) _ s1,k TI (by simp) _ s2,⟨u,v,k TO (by simp) _ s3⟩,s4.at fun o q=>k i1 (by simp) o q,s5.at fun o q=>k i2 (by simp) o q⟩
 item:=by
  intro X hP hw hK hc i pins s σ H E I hf st hg
  subst hP hw hK
  obtain ⟨s1,s2,⟨u,v,s3⟩,s4,s5⟩:=st
  obtain ⟨xs,ys,x,y,hq,hq',hx,hy⟩:=hg
  obtain ⟨its,rv,p,hz⟩:=I.tuple hq
  obtain ⟨its',rv',p',hz'⟩:=I.list hq'
  obtain ⟨ux,hux,rux⟩:=rv.get hx
  obtain ⟨uy,huy,ruy⟩:=rv'.get hy
  refine next_zipU D s1 s2 s3 s4 s5 (show s.heap.IsTuple a its.toArray from p) p'.isList (x:=ux) (y:=uy) (by simpa using hux) (by simpa using huy) fun h1 a1 a2 a3 a4 a5 a6 k1=>⟨_,rfl,?_⟩
  refine wpAny_letOwnedTupleGo_zip (s:={ s with heap:=h1 }) a1 fun h2 e2 sb=>?_
  have lt:∀ c ob,s.heap.get? c=some ob→c≠s.heap.objs.size:=fun c ob q=>Nat.ne_of_lt (Heap.lt_size q)
  have zT:z≠s.heap.objs.size:=lt z _ s1
  have k2:∀ c ob,c ∉ [z,TI,TO,i1,i2]→s.heap.get? c=some ob→h2.get? c=some ob:=fun c ob hb q=>by
   have n1:c≠z:=fun t=>hb (by simp [t])
   exact (sb.2 c n1).trans (k1 c ob n1 (fun t=>hb (by simp [t])) (fun t=>hb (by simp [t])) (fun t=>hb (by simp [t])) q)
  have new:ObjOk X.prog X.w (upd H s.heap.objs.size (.tup [x,y])) h2 s.heap.objs.size (.tup [x,y]) :=
   ⟨by show 2≤sizeLine; decide,[ux,uy],.cons rux (.cons ruy .nil),⟨_,(sb.2 _ (Ne.symm zT)).trans a5,rfl,_,rfl⟩⟩
  refine ⟨.ref s.heap.objs.size,_,I.turnLay (t':=s.toks) (d':=s.drawn) hf (Nat.le_refl _) k2 new,rfl,⟨_,x,y,rfl,I.hok.fresh (Nat.le_refl _),fun zs hzs=>by rw [I.tuple_inj hzs hq]; exact hx,fun zs hzs=>by rw [I.list_inj hzs hq']; exact hy,rfl⟩,
   ⟨e2,(sb.2 _ D.TIz).trans (k1 _ _ D.TIz D.TITO D.TIi1 D.TIi2 s2),⟨_,_,(sb.2 _ D.TOz).trans a2⟩,a3.at fun o q=>(sb.2 _ D.i1z).trans q,a4.at fun o q=>(sb.2 _ D.i2z).trans q⟩,fun c hc=>?_⟩
  have hcT:c≠s.heap.objs.size:=by
   simp only [List.mem_cons,List.not_mem_nil,or_false] at hc
   rcases hc with rfl | rfl | rfl | rfl | rfl
   ·exact zT
   ·exact lt _ _ s2
   ·exact lt _ _ s3
   ·exact let ⟨o,q,_⟩:=s4; lt _ o q
   ·exact let ⟨o,q,_⟩:=s5; lt _ o q
  rw [upd_ne hcT]
  exact (hf c hc).1
 done:=by
  intro X hP hw hK hc i pins s σ H E I hf st hg
  subst hP hw hK
  obtain ⟨s1,s2,⟨u,v,s3⟩,s4,s5⟩:=st
  obtain ⟨xs,hq,hx⟩:=hg
  obtain ⟨its,rv,p,hz⟩:=I.tuple hq
  refine next_zipU_end (I.ok.hd hc) D s1 s2 s3 s4 (show s.heap.IsTuple a its.toArray from p) ?_ fun h1 k1=>⟨rfl,I.turnedL (t':=s.toks) hf fun c ob hb q=>k1 c ob (fun t=>hb (by simp [t])) (fun t=>hb (by simp [t])) (fun t=>hb (by simp [t])) (fun t=>hb (by simp [t])) q⟩
  rw [List.getElem?_toArray]; exact List.getElem?_eq_none (by rw [← rv.length]; exact hx)
 self:=fun A i s Q E st q=>wpAny_pyIter_zip st.1 q
noncomputable def iZipU (K:PySem.W.Frag) (ta:TA):TI:=fun σ H R=>ta σ H fun vs H1=>Ex_2_4 (fun a b=>vs=[.ref a,.ref b]) (fun a b=>(∃ xs,SqT K H1 a xs)) (fun a b=>(∃ ys,SqL K H1 b ys)) (fun a b=>R (Izu K a b) H1)
theorem pi_zipU {X:Cx} {elts:List Expr} {kk:Nat} {tpos:Pos} {l r:Expr} {ta:TA} {p pos:Pos} (hg:Gl X "zip") (hm:X.mg "zip"=none) (ha:PA X [l,r] ta) (hs:starEach [l,r] X.env=[(false,eval l X.env),(false,eval r X.env)]:=by rfl) (hs2:starEach [r] X.env=[(false,eval r X.env)]:=by rfl) :
  PI X (.Tuple elts kk tpos) (.Call (.Name "zip" p) [l,r] [] pos) (iZipU X.K ta):=by
 intro pins s σ H R I h
 refine Call_ (ld_blt I hg hm boot_zip (PyProof.Rows.callWith_type1 (thnA (ha pos pins s σ H _ I h) fun us s1 vs H1 I1 r1 q1=>?_) (by rw [hs,hs2]) (by rw [hs2]; rfl)))
 obtain ⟨a,b,rfl,⟨xs,hq⟩,⟨ys,hq'⟩,q⟩:=q1
 obtain ⟨u,u',rfl,ru,ru'⟩:=vals2 r1
 cases ru
 cases ru'
 obtain ⟨its,rv,pl,hz⟩:=I1.tuple hq
 obtain ⟨its',rv',pl',hz'⟩:=I1.list hq'
 have la:a < s1.heap.objs.size:=let ⟨o,e,_⟩:=pl; Heap.lt_size e
 have lb:b < s1.heap.objs.size:=let ⟨o,n,e,_⟩:=pl'; Heap.lt_size e
 refine call_zipU (show s1.heap.IsTuple a its.toArray from pl) pl'.isList fun h1 a1 a2 a3 a4 a5 k1=>?_
 refine wpAny_pyIter_zip a1 ?_
 have I2:Inv X pins σ H1 { s1 with heap:=h1 }:=I1.kept (t':=s1.toks) k1
 refine ⟨_,[s1.heap.objs.size + 4,s1.heap.objs.size + 2,s1.heap.objs.size + 3,s1.heap.objs.size,s1.heap.objs.size + 1],_,Izu X.K a b,H1,rfl,I2,turn_zipU (zipApart_new la lb),⟨a1,a2,⟨_,_,a3⟩,a4,a5⟩,fun c hc=>?_,q⟩
 have up:∀ n,FpOk X pins H1 (s1.heap.objs.size + n):=fun n=>I1.fpOk (Nat.le_add_right _ n) (I1.hok.fresh (Nat.le_add_right _ n))
 simp only [List.mem_cons,List.not_mem_nil,or_false] at hc
 rcases hc with rfl | rfl | rfl | rfl | rfl
 ·exact up 4
 ·exact up 2
 ·exact up 3
 ·exact up 0
 ·exact up 1
theorem for_zipU {K:PySem.W.Frag} {a b:Addr} {xs ys:List V} {g:TG} {tb:TS} {D:Ends} {σ:St} {H:Hp} (hlen:xs.length=ys.length) (Pv:Nat→St→Hp→Prop) (h0:Pv 0 σ H) (hl:∀ i σ H,i≤xs.length→Pv i σ H→SqT K H a xs∧SqL K H b ys)
  (hs:∀ i x y σ H p,xs[i]?=some x→ys[i]?=some y→Pv i σ H→H p=none→g (.ref p) σ (upd H p (.tup [x,y])) fun σ2 H2=>tb { D with nx:=Pv (i + 1),ct:=Pv (i + 1),bk:=D.nx } σ2 H2) (hd:∀ σ H,Pv xs.length σ H→D.nx σ H) :
  ∃ W:Nat→Nat→St→Hp→Prop,(∃ m,W 0 m σ H)∧∀ i m σ H,W i m σ H →
   ((Izu K a b).stop i H∧D.nx σ H)∨((Izu K a b).go i H∧∃ N:St→Hp→Prop,(∀ σ' H',N σ' H'→∃ m',m' < m∧W (i + 1) m' σ' H')∧∀ x H',(Izu K a b).yld i H x H'→g x σ H' fun σ2 H2=>tb { D with nx:=N,ct:=N,bk:=D.nx } σ2 H2):=by
 refine ⟨fun i m σ H=>m=xs.length - i∧i≤xs.length∧Pv i σ H,⟨xs.length,by simp,Nat.zero_le _,h0⟩,?_⟩
 rintro i m σ H ⟨rfl,hi,p⟩
 obtain ⟨q,q'⟩:=hl i σ H hi p
 by_cases hlt:i < xs.length
 ·refine .inr ⟨⟨xs,ys,xs[i],ys[i]'(hlen ▸ hlt),q,q',by simp [hlt],by simp [hlen ▸ hlt]⟩,Pv (i + 1),fun σ' H' p'=>⟨xs.length - (i + 1),by lia,rfl,hlt,p'⟩,fun v H' hy=>?_⟩
  obtain ⟨pp,x,y,rfl,hn,hx,hy,rfl⟩:=hy
  exact hs i x y σ H pp (hx xs q) (hy ys q') p hn
 ·have e:i=xs.length:=by lia
  subst e
  exact .inl ⟨⟨xs,q,Nat.le_refl _⟩,hd σ H p⟩
end L2
set_option Elab.async false
set_option linter.all false
set_option maxRecDepth 100000
set_option maxHeartbeats 4100000
namespace Own
open PySem L2
noncomputable def top (i:Nat):Stmt:=PySem.Challenge.pw_latewrite_k23_outcomes_of_tales.main.body.getD i (.Pass ⟨0,0,0,0⟩)
noncomputable abbrev s_placeof:Stmt:=top 1
noncomputable abbrev s_iswrite:Stmt:=top 2
noncomputable abbrev s_isread:Stmt:=top 3
noncomputable abbrev s_numberof:Stmt:=top 4
noncomputable abbrev s_cupof:Stmt:=top 5
noncomputable abbrev s_guardof:Stmt:=top 6
noncomputable abbrev s_holds:Stmt:=top 7
noncomputable abbrev s_pointdeeds:Stmt:=top 12
noncomputable abbrev s_numbered:Stmt:=top 13
noncomputable abbrev s_deedat:Stmt:=top 14
noncomputable abbrev s_numberat:Stmt:=top 15
noncomputable abbrev s_places:Stmt:=top 16
noncomputable abbrev s_cups:Stmt:=top 17
noncomputable abbrev s_outcomeof:Stmt:=top 20
noncomputable abbrev s_wholewalk:Stmt:=top 21
noncomputable abbrev s_walkby:Stmt:=top 22
noncomputable abbrev s_numberread:Stmt:=top 23
noncomputable abbrev s_writes:Stmt:=top 24
noncomputable abbrev s_fromsfit:Stmt:=top 25
noncomputable abbrev s_sourcefits:Stmt:=top 26
noncomputable abbrev s_linesfit:Stmt:=top 27
noncomputable abbrev s_writersto:Stmt:=top 28
noncomputable abbrev s_outcomewith:Stmt:=top 29
noncomputable abbrev s_cupswith:Stmt:=top 30
noncomputable abbrev s_lastof:Stmt:=top 31
noncomputable abbrev s_Lcellat:Stmt:=top 33
noncomputable abbrev s_Lmixed:Stmt:=top 34
noncomputable abbrev s_Lother:Stmt:=top 35
noncomputable abbrev s_Lthird:Stmt:=top 36
noncomputable abbrev s_Lnumber:Stmt:=top 37
noncomputable abbrev s_Lnames:Stmt:=top 38
noncomputable abbrev s_Lsize:Stmt:=top 39
noncomputable abbrev s_Lguard:Stmt:=top 40
noncomputable abbrev s_Ldeed:Stmt:=top 41
noncomputable abbrev s_Lprogram:Stmt:=top 42
noncomputable abbrev s_Lplace:Stmt:=top 43
noncomputable abbrev s_Ldeeds:Stmt:=top 44
noncomputable abbrev s_Lholds:Stmt:=top 45
noncomputable abbrev s_Lwrites:Stmt:=top 46
noncomputable abbrev s_Lnamed:Stmt:=top 47
noncomputable abbrev s_Lgone:Stmt:=top 48
noncomputable abbrev s_Llines:Stmt:=top 49
noncomputable abbrev s_Lpairs:Stmt:=top 50
noncomputable abbrev s_Ltold:Stmt:=top 51
noncomputable abbrev s_law:Stmt:=top 52
noncomputable abbrev s_Walkinit:Stmt:=inClass (top 19) 0
structure Txt (K:PySem.W.Frag) (mg:Str→Option Value):Prop where
 n_all:mg "all"=none
 n_bool:mg "bool"=none
 n_dict:mg "dict"=none
 n_enumerate:mg "enumerate"=none
 n_int:mg "int"=none
 n_isinstance:mg "isinstance"=none
 n_len:mg "len"=none
 n_list:mg "list"=none
 n_max:mg "max"=none
 n_min:mg "min"=none
 n_range:mg "range"=none
 n_set:mg "set"=none
 n_sorted:mg "sorted"=none
 n_str:mg "str"=none
 n_tuple:mg "tuple"=none
 n_zip:mg "zip"=none
 c_Walk:mg "Walk"=some (.ref (cA K "Walk"))
 cl_Walk:Cls K (cA K "Walk")
 na_Walk_done:NoAttr K (cA K "Walk") "done"
 na_Walk_stops:NoAttr K (cA K "Walk") "stops"
 na_Walk_filled:NoAttr K (cA K "Walk") "filled"
structure DD where
 a:Addr
 d:Deed
 g:Option (Str×Str×Int)
noncomputable def DD.gok (K:PySem.W.Frag) (H:Hp) (x:DD):Prop:=match x.g with
 | none=>x.d.guard=.non
 | some (w,c,n)=>∃ q:Addr,x.d.guard=.ref q∧SqT K H q [.str w,.str c,.int n]
structure IsDeed (K:PySem.W.Frag) (H:Hp) (x:DD):Prop where
 t:SqT K H x.a x.d.items
 g:x.gok K H
structure IsHand (K:PySem.W.Frag) (H:Hp) (a:Addr) (ds:List DD):Prop where
 l:SqL K H a (ds.map fun x=>V.ref x.a)
 ds:∀ x∈ds,IsDeed K H x
noncomputable abbrev Hands:=List (Addr×List DD)
structure IsProg (K:PySem.W.Frag) (H:Hp) (p:Addr) (hs:Hands):Prop where
 l:SqL K H p (hs.map fun h=>V.ref h.1)
 hs:∀ h∈hs,IsHand K H h.1 h.2
noncomputable def pt (d:Deed):Bool:=d.writes || d.reads
noncomputable def ptsOf (ds:List DD):List DD:=ds.filter fun x=>pt x.d
noncomputable def spot:Deed→List Str
 | .put x _ _=>[x] | .get _ x _=>[x] | .swap _ x _ _=>[x] | _=>[]
noncomputable def fill:Deed→List Str
 | .get c _ _=>[c] | .swap c _ _ _=>[c] | _=>[]
noncomputable def asks (x:DD):List Str:=(x.g.map fun g=>g.2.1).toList
structure Good (S C:List Str) (hs:Hands):Prop where
 nh:hs.length≤6
 nd:∀ h∈hs,h.2.length≤40
 sp:∀ h∈hs,∀ x∈h.2,∀ z∈spot x.d,z∈S
 cf:∀ h∈hs,∀ x∈h.2,∀ z∈fill x.d,z∈C
 ca:∀ h∈hs,∀ x∈h.2,∀ z∈asks x,z∈C
 ns:S.length≤4
 nc:C.length≤4
noncomputable def npts (ds:List DD):Nat:=(ptsOf ds).length
noncomputable def handAt (hs:Hands) (i:Nat):List DD:=((hs[i]?).map (·.2)).getD []
noncomputable def spotsTo (hs:Hands):Nat→List Str
 | 0=>[]
 | i + 1=>spotsTo hs i ++ (handAt hs i).flatMap fun x=>spot x.d
noncomputable def deedAt (hs:Hands) (h k:Int):V:=if h < 0∨k < 0∨(hs.length:Int)≤h then .non else match (ptsOf (handAt hs h.toNat))[k.toNat]? with
 | some x=>.ref x.a
 | none=>.non
section
variable {K:PySem.W.Frag} {H H':Hp}
theorem IsDeed.same {x:DD} (s:Same H H') (h:IsDeed K H x):IsDeed K H' x:=by
 refine ⟨s.seqT h.t,?_⟩
 have g:=h.g
 unfold DD.gok at g ⊢
 cases e:x.g with
 | none=>rw [e] at g; exact g
 | some c =>
  rw [e] at g
  obtain ⟨q,h1,h2⟩:=g
  exact ⟨q,h1,s.seqT h2⟩
theorem IsHand.same {a:Addr} {ds:List DD} (s:Same H H') (h:IsHand K H a ds):IsHand K H' a ds:=⟨s.seq h.l,fun x hx=>(h.ds x hx).same s⟩
theorem IsProg.same {p:Addr} {hs:Hands} (s:Same H H') (h:IsProg K H p hs):IsProg K H' p hs:=⟨s.seq h.l,fun x hx=>(h.hs x hx).same s⟩
theorem ptsOf_take_succ {ds:List DD} {i:Nat} {x:DD} (h:ds[i]?=some x):ptsOf (ds.take (i + 1))=ptsOf (ds.take i) ++ (if pt x.d=true then [x] else []):=by
 unfold ptsOf
 rw [List.take_add_one,h,List.filter_append]
 congr 1
 by_cases c:pt x.d=true
 ·rw [if_pos c]; simp [c]
 ·rw [if_neg c]; simp [c]
theorem ptsOf_le (ds:List DD):(ptsOf ds).length≤ds.length:=List.length_filter_le _ _
theorem flat_take_succ {β:Type} {ds:List DD} {i:Nat} {x:DD} (f:DD→List β) (h:ds[i]?=some x):(ds.take (i + 1)).flatMap f=(ds.take i).flatMap f ++ f x:=by
 rw [List.take_add_one,h,List.flatMap_append]
 simp
theorem handAt_of {hs:Hands} {i:Nat} {h:Addr×List DD} (e:hs[i]?=some h):handAt hs i=h.2:=by
 unfold handAt
 rw [e]; rfl
theorem nodup_le:∀ {us S:List Str},us.Nodup→(∀ z∈us,z∈S)→us.length≤S.length
 | [],_,_,_=>Nat.zero_le _
 | u :: us,S,nd,h=>by
  obtain ⟨n1,n2⟩:=List.nodup_cons.mp nd
  have hu:u∈S:=h u (List.mem_cons_self ..)
  have ih:=nodup_le (us:=us) (S:=S.erase u) n2 fun z hz=>(List.mem_erase_of_ne (fun (e:z=u)=>n1 (e ▸ hz))).mpr (h z (List.mem_cons_of_mem _ hz))
  have hp:0 < S.length:=List.length_pos_of_mem hu
  rw [List.length_erase_of_mem hu] at ih
  rw [List.length_cons]
  lia
theorem refs_get {α:Type} {xs:List α} {f:α→V} {i:Nat} {v:V} (h:(xs.map f)[i]?=some v):∃ x,xs[i]?=some x∧v=f x:=by
 rw [List.getElem?_map] at h
 cases e:xs[i]? with
 | none=>rw [e] at h; cases h
 | some x=>rw [e] at h; exact ⟨x,rfl,(Option.some.inj h).symm⟩
theorem spotsTo_mem {S C:List Str} {hs:Hands} (G:Good S C hs):∀ i,∀ z∈spotsTo hs i,z∈S
 | 0,z,h=>by cases h
 | i + 1,z,h=>by
  rcases List.mem_append.mp h with h | h
  ·exact spotsTo_mem G i z h
  ·unfold handAt at h
   cases e:hs[i]? with
   | none=>rw [e] at h; simp at h
   | some hd =>
    rw [e] at h
    obtain ⟨x,hx,hz⟩:=List.mem_flatMap.mp h
    exact G.sp hd (List.mem_of_getElem? e) x hx z hz
theorem spot_len (d:Deed):(spot d).length≤1:=by cases d <;> first | exact Nat.le_refl 1 | exact Nat.zero_le 1
theorem flat_len {β:Type} {f:DD→List β} (hf:∀ x,(f x).length≤1):∀ ds:List DD,(ds.flatMap f).length≤ds.length
 | []=>Nat.le_refl _
 | x :: ds=>by
  rw [List.flatMap_cons,List.length_append,List.length_cons]
  have:=hf x
  have:=flat_len hf ds
  lia
theorem spotsTo_len {S C:List Str} {hs:Hands} (G:Good S C hs):∀ i,(spotsTo hs i).length≤40 * i
 | 0=>Nat.le_refl _
 | i + 1=>by
  have h1:=spotsTo_len G i
  have h2:((handAt hs i).flatMap fun x=>spot x.d).length≤40:=by
   refine Nat.le_trans (flat_len (fun x=>spot_len x.d) _) ?_
   unfold handAt
   cases e:hs[i]? with
   | none=>simp
   | some hd=>exact G.nd hd (List.mem_of_getElem? e)
  show (spotsTo hs i ++ _).length≤_
  rw [List.length_append]
  lia
theorem place_spot {d:Deed} (h:pt d=true):∃ z,spot d=[z]∧d.place=.str z:=by
 cases d with
 | put x n g=>exact ⟨x,rfl,rfl⟩
 | get c x g=>exact ⟨x,rfl,rfl⟩
 | swap c x n g=>exact ⟨x,rfl,rfl⟩
 | fence g=>cases h
 | bar g=>cases h
theorem spot_none {d:Deed} (h:pt d=false):spot d=[]:=by
 cases d with
 | put x n g=>cases h
 | get c x g=>cases h
 | swap c x n g=>cases h
 | fence g=>rfl
 | bar g=>rfl
theorem place_none {d:Deed} (h:pt d=false):d.place=.non:=by
 cases d with
 | put x n g=>cases h
 | get c x g=>cases h
 | swap c x n g=>cases h
 | fence g=>rfl
 | bar g=>rfl
theorem flat_pts:∀ ds:List DD,(ptsOf ds).flatMap (fun x=>spot x.d)=ds.flatMap fun x=>spot x.d
 | []=>rfl
 | x :: ds=>by
  have ih:=flat_pts ds
  unfold ptsOf at ih ⊢
  by_cases c:pt x.d=true
  ·rw [List.filter_cons_of_pos (p:=fun x:DD=>pt x.d) c,List.flatMap_cons,List.flatMap_cons,ih]
  ·rw [List.filter_cons_of_neg (p:=fun x:DD=>pt x.d) c,List.flatMap_cons,ih,spot_none (by simpa using c)]
   rfl
theorem cup_fill {d:Deed} (h:d.reads=true):∃ z,fill d=[z]∧d.cup=.str z:=by
 cases d with
 | get c x g=>exact ⟨c,rfl,rfl⟩
 | swap c x n g=>exact ⟨c,rfl,rfl⟩
 | put x n g=>cases h
 | fence g=>cases h
 | bar g=>cases h
theorem fill_none {d:Deed} (h:d.reads=false):fill d=[]:=by
 cases d with
 | get c x g=>cases h
 | swap c x n g=>cases h
 | put x n g=>rfl
 | fence g=>rfl
 | bar g=>rfl
theorem fill_len (d:Deed):(fill d).length≤1:=by cases d <;> first | exact Nat.le_refl 1 | exact Nat.zero_le 1
theorem asks_len (x:DD):(asks x).length≤1:=by unfold asks; cases x.g <;> simp
end
noncomputable def ddAt (hs:Hands) (z:Int×Int):Option DD:=if z.1 < 0∨z.2 < 0∨(hs.length:Int)≤z.1 then none else (ptsOf (handAt hs z.1.toNat))[z.2.toNat]?
noncomputable def writeAt (hs:Hands) (z:Int×Int):Bool:=match ddAt hs z with
 | some x=>x.d.writes
 | none=>false
noncomputable def numOf:Deed→Int
 | .put _ n _=>n | .swap _ _ n _=>n | _=>0
noncomputable def numAt (hs:Hands):Option (Int×Int)→Int
 | none=>0
 | some z=>match ddAt hs z with
  | some x=>numOf x.d
  | none=>0
noncomputable def SrcV (K:PySem.W.Frag) (H:Hp) (v:V):Option (Int×Int)→Prop
 | none=>v=.non
 | some z=>∃ t,v=.ref t∧SqT K H t [.int z.1,.int z.2]
theorem SrcV.same {K:PySem.W.Frag} {H H':Hp} {v:V} {o:Option (Int×Int)} (s:Same H H') (h:SrcV K H v o):SrcV K H' v o:=by
 cases o with
 | none=>exact h
 | some z=>obtain ⟨t,e,h⟩:=h; exact ⟨t,e,s.seqT h⟩
theorem numOf_eq {d:Deed} (h:d.writes=true):d.number=.int (numOf d):=by
 cases d with
 | put x n g=>rfl
 | swap c x n g=>rfl
 | get c x g=>cases h
 | fence g=>cases h
 | bar g=>cases h
theorem writeAt_some {hs:Hands} {z:Int×Int} (h:writeAt hs z=true):∃ x,ddAt hs z=some x∧x.d.writes=true:=by
 unfold writeAt at h
 cases e:ddAt hs z with
 | none=>rw [e] at h; cases h
 | some x=>rw [e] at h; exact ⟨x,rfl,h⟩
theorem deedAt_of {hs:Hands} {z:Int×Int} {x:DD} (h:ddAt hs z=some x):deedAt hs z.1 z.2=.ref x.a:=by
 unfold ddAt at h
 unfold deedAt
 by_cases c:z.1 < 0∨z.2 < 0∨(hs.length:Int)≤z.1
 ·rw [if_pos c] at h; cases h
 ·rw [if_neg c] at h ⊢; rw [h]
theorem deedAt_none {hs:Hands} {z:Int×Int} (h:ddAt hs z=none):deedAt hs z.1 z.2=.non:=by
 unfold ddAt at h
 unfold deedAt
 by_cases c:z.1 < 0∨z.2 < 0∨(hs.length:Int)≤z.1
 ·rw [if_pos c]
 ·rw [if_neg c] at h ⊢; rw [h]
theorem ddAt_mem {hs:Hands} {z:Int×Int} {x:DD} (h:ddAt hs z=some x):∃ hd∈hs,x∈hd.2∧pt x.d=true:=by
 unfold ddAt at h
 by_cases c:z.1 < 0∨z.2 < 0∨(hs.length:Int)≤z.1
 ·rw [if_pos c] at h; cases h
 ·rw [if_neg c] at h
  have hx:=List.mem_filter.mp (List.mem_of_getElem? h)
  have hi:z.1.toNat < hs.length:=by lia
  have e:hs[z.1.toNat]?=some hs[z.1.toNat]:=List.getElem?_eq_getElem hi
  rw [handAt_of e] at hx
  exact ⟨_,List.mem_of_getElem? e,hx.1,hx.2⟩
theorem ddAt_deed {K:PySem.W.Frag} {H:Hp} {p:Addr} {hs:Hands} {z:Int×Int} {x:DD} (hP:IsProg K H p hs) (h:ddAt hs z=some x):IsDeed K H x:=by
 obtain ⟨hd,h1,h2,_⟩:=ddAt_mem h
 exact (hP.hs hd h1).ds x h2
inductive Sp_numberof (K:PySem.W.Frag) (vs:List V) (H:Hp) (Q:VK) (E_:XK):Prop
 | mk (p:Addr) (d:Deed) (h0_:vs=[.ref p]) (h1_:SqT K H p d.items) (h2_:∀ H',Same H H'→Q d.number H'):Sp_numberof K vs H Q E_
noncomputable def sp_numberof (K:PySem.W.Frag):Sp:=Sp_numberof K
inductive Sp_numberat (K:PySem.W.Frag) (vs:List V) (H:Hp) (Q:VK) (E_:XK):Prop
 | mk (p:Addr) (hs:Hands) (S:List Str) (C:List Str) (sv:V) (src:Option (Int×Int)) (h0_:vs=[.ref p,sv]) (h1_:IsProg K H p hs) (h2_:Good S C hs) (h3_:SrcV K H sv src) (h4_:(∀ z,src=some z→writeAt hs z=true)) (h5_:∀ H',Same H H'→Q (.int (numAt hs src)) H'):Sp_numberat K vs H Q E_
noncomputable def sp_numberat (K:PySem.W.Frag):Sp:=Sp_numberat K
inductive Sp_writes (K:PySem.W.Frag) (vs:List V) (H:Hp) (Q:VK) (E_:XK):Prop
 | mk (p:Addr) (t:Addr) (hs:Hands) (S:List Str) (C:List Str) (z:Int×Int) (h0_:vs=[.ref p,.ref t]) (h1_:IsProg K H p hs) (h2_:Good S C hs) (h3_:SqT K H t [.int z.1,.int z.2]) (h4_:∀ H',Same H H'→Q (.bl (writeAt hs z)) H'):Sp_writes K vs H Q E_
noncomputable def sp_writes (K:PySem.W.Frag):Sp:=Sp_writes K
inductive Sp_iswrite (K:PySem.W.Frag) (vs:List V) (H:Hp) (Q:VK) (E_:XK):Prop
 | mk (p:Addr) (d:Deed) (h0_:vs=[.ref p]) (h1_:SqT K H p d.items) (h2_:∀ H',Same H H'→Q (.bl d.writes) H'):Sp_iswrite K vs H Q E_
noncomputable def sp_iswrite (K:PySem.W.Frag):Sp:=Sp_iswrite K
inductive Sp_isread (K:PySem.W.Frag) (vs:List V) (H:Hp) (Q:VK) (E_:XK):Prop
 | mk (p:Addr) (d:Deed) (h0_:vs=[.ref p]) (h1_:SqT K H p d.items) (h2_:∀ H',Same H H'→Q (.bl d.reads) H'):Sp_isread K vs H Q E_
noncomputable def sp_isread (K:PySem.W.Frag):Sp:=Sp_isread K
inductive Sp_placeof (K:PySem.W.Frag) (vs:List V) (H:Hp) (Q:VK) (E_:XK):Prop
 | mk (p:Addr) (d:Deed) (h0_:vs=[.ref p]) (h1_:SqT K H p d.items) (h2_:∀ H',Same H H'→Q d.place H'):Sp_placeof K vs H Q E_
noncomputable def sp_placeof (K:PySem.W.Frag):Sp:=Sp_placeof K
inductive Sp_cupof (K:PySem.W.Frag) (vs:List V) (H:Hp) (Q:VK) (E_:XK):Prop
 | mk (p:Addr) (d:Deed) (h0_:vs=[.ref p]) (h1_:SqT K H p d.items) (h2_:∀ H',Same H H'→Q d.cup H'):Sp_cupof K vs H Q E_
noncomputable def sp_cupof (K:PySem.W.Frag):Sp:=Sp_cupof K
inductive Sp_guardof (K:PySem.W.Frag) (vs:List V) (H:Hp) (Q:VK) (E_:XK):Prop
 | mk (p:Addr) (d:Deed) (h0_:vs=[.ref p]) (h1_:SqT K H p d.items) (h2_:Q d.guard H):Sp_guardof K vs H Q E_
noncomputable def sp_guardof (K:PySem.W.Frag):Sp:=Sp_guardof K
inductive Sp_pointdeeds (K:PySem.W.Frag) (vs:List V) (H:Hp) (Q:VK) (E_:XK):Prop
 | mk (a:Addr) (ds:List DD) (h0_:vs=[.ref a]) (h1_:IsHand K H a ds) (h2_:ds.length≤40) (h3_:∀ l H',Same H H'→H' l=some (.lst ((ptsOf ds).map fun x=>V.ref x.a))→Q (.ref l) H'):Sp_pointdeeds K vs H Q E_
noncomputable def sp_pointdeeds (K:PySem.W.Frag):Sp:=Sp_pointdeeds K
inductive Sp_deedat (K:PySem.W.Frag) (vs:List V) (H:Hp) (Q:VK) (E_:XK):Prop
 | mk (p:Addr) (t:Addr) (hs:Hands) (S:List Str) (C:List Str) (h:Int) (k:Int) (h0_:vs=[.ref p,.ref t]) (h1_:IsProg K H p hs) (h2_:Good S C hs) (h3_:SqT K H t [.int h,.int k]) (h4_:∀ H',Same H H'→Q (deedAt hs h k) H'):Sp_deedat K vs H Q E_
noncomputable def sp_deedat (K:PySem.W.Frag):Sp:=Sp_deedat K
inductive Sp_places (K:PySem.W.Frag) (vs:List V) (H:Hp) (Q:VK) (E_:XK):Prop
 | mk (p:Addr) (hs:Hands) (S:List Str) (C:List Str) (h0_:vs=[.ref p]) (h1_:IsProg K H p hs) (h2_:Good S C hs) (h3_:∀ l us H',Same H H'→H l=none→H' l=some (.lst (us.map V.str))→RisingT us→(∀ z,z∈us ↔ z∈spotsTo hs hs.length)→Q (.ref l) H'):Sp_places K vs H Q E_
noncomputable def sp_places (K:PySem.W.Frag):Sp:=Sp_places K
theorem tSeq_hide {t u:TS} {D:Ends} {σ:St} {H:Hp} (h:∀ N:St→Hp→Prop,(∀ σ' H',u D σ' H'→N σ' H')→t { D with nx:=N } σ H):tSeq t u D σ H:=h (u D) fun _ _ h=>h
theorem nox_K {CX:CXT} {P:Program} {w:World} {K:PySem.W.Frag} {mg:Str→Option Value} {base:Heap} {N:List Str} {fn:Str} {sc:Scope} {f:Addr} {cdv:Value} {A:Around} {outer:List Env} {s:Shared} {H:Hp} {E:XK}:(cxOf CX P w K mg base N fn sc f cdv A outer s H E).nox.K=K:=rfl
section
variable {P:Program} {w:World} {K:PySem.W.Frag} {mg:Str→Option Value} {base:Heap}
theorem sc_iswrite:FnScope ["deed"] ["deed"] (defScope s_iswrite):=⟨rfl,rfl,rfl,by decide +kernel,rfl,by decide +kernel,by decide +kernel⟩
theorem ok_iswrite {f:Addr} {fd:FuncData} (F:Fun K "is_write" "is_write" s_iswrite f fd) (T:Txt K mg) :FnOk P w K mg base CX0 1 f fd ["deed"] (sp_iswrite K):=by
 refine F.ok (k:=0) sc_iswrite (fun vs H Q E h=>?_) (fun cdv A outer s H vs Q E hr h=>?_)
 ·obtain ⟨p,d,rfl,_⟩:=h
  rfl
 ·obtain ⟨p,d,rfl,hS,q⟩:=h
  refine ⟨_,(pss_one (ps_ret (pe_cmpR op_in_seq (pe_ix ix_tup (pv 0) pe_int (fun _ _=>rfl)) (pe_tup (pa_cons pe_str (pa_cons pe_str pa_nil))) (by with_unfolding_all rfl)))),?_⟩
  try dsimp only [nox_K]
  cases d <;> exact ⟨_,rfl,p,_,_,_,rfl,rfl,hS,rfl,(by decide),fun l hl=>⟨l,_,rfl,.inr SqT.new,rfl,rfl,qb (q _ (Same.new hl)) (by first | exact (show true=_ by decide +kernel) | exact (show false=_ by decide +kernel))⟩⟩
theorem sc_isread:FnScope ["deed"] ["deed"] (defScope s_isread):=⟨rfl,rfl,rfl,by decide +kernel,rfl,by decide +kernel,by decide +kernel⟩
theorem ok_isread {f:Addr} {fd:FuncData} (F:Fun K "is_read" "is_read" s_isread f fd) (T:Txt K mg) :FnOk P w K mg base CX0 1 f fd ["deed"] (sp_isread K):=by
 refine F.ok (k:=0) sc_isread (fun vs H Q E h=>?_) (fun cdv A outer s H vs Q E hr h=>?_)
 ·obtain ⟨p,d,rfl,_⟩:=h
  rfl
 ·obtain ⟨p,d,rfl,hS,q⟩:=h
  refine ⟨_,(pss_one (ps_ret (pe_cmpR op_in_seq (pe_ix ix_tup (pv 0) pe_int (fun _ _=>rfl)) (pe_tup (pa_cons pe_str (pa_cons pe_str pa_nil))) (by with_unfolding_all rfl)))),?_⟩
  try dsimp only [nox_K]
  cases d <;> exact ⟨_,rfl,p,_,_,_,rfl,rfl,hS,rfl,(by decide),fun l hl=>⟨l,_,rfl,.inr SqT.new,rfl,rfl,qb (q _ (Same.new hl)) (by first | exact (show true=_ by decide +kernel) | exact (show false=_ by decide +kernel))⟩⟩
theorem sc_placeof:FnScope ["deed"] ["deed"] (defScope s_placeof):=⟨rfl,rfl,rfl,by decide +kernel,rfl,by decide +kernel,by decide +kernel⟩
theorem ok_placeof {f:Addr} {fd:FuncData} (F:Fun K "place_of" "place_of" s_placeof f fd) (T:Txt K mg) (h_isread:Has P w K mg base 1 "is_read" ["deed"] (sp_isread K)):FnOk P w K mg base CX0 2 f fd ["deed"] (sp_placeof K):=by
 refine F.ok (k:=1) sc_placeof (fun vs H Q E h=>?_) (fun cdv A outer s H vs Q E hr h=>?_)
 ·obtain ⟨p,d,rfl,_⟩:=h
  rfl
 ·obtain ⟨p,d,rfl,hS,q⟩:=h
  refine ⟨_,(pss_cons (ps_if (pt_cmpR op_eq (pe_ix ix_tup (pv 0) pe_int (fun _ _=>rfl)) pe_str (nomark _))
   (pss_one (ps_ret (pe_ix ix_tup (pv 0) pe_int (fun _ _=>rfl))))
   pss_nil)
   (pss_cons (ps_if (pt_val (pe_fn h_isread (hr.mono (by decide)) (pa_cons (pv 0) pa_nil)))
   (pss_one (ps_ret (pe_ix ix_tup (pv 0) pe_int (fun _ _=>rfl))))
   pss_nil)
   (pss_one (ps_ret pe_non)))),?_⟩
  try dsimp only [nox_K]
  cases d with
  | put x n g =>
   refine ⟨_,rfl,p,_,_,_,rfl,rfl,hS,rfl,rfl,_,rfl,ifT (by decide +kernel) ?_⟩
   exact ⟨_,rfl,p,_,_,_,rfl,rfl,hS,rfl,q _ (Same.refl _)⟩
  | get c x g =>
   refine ⟨_,rfl,p,_,_,_,rfl,rfl,hS,rfl,rfl,_,rfl,ifF (by decide +kernel) ?_⟩
   exact ⟨_,rfl,p,_,rfl,hS,fun H' s=>⟨_,rfl,iteT ⟨_,rfl,p,_,_,_,rfl,rfl,s.seqT hS,rfl,q _ s⟩⟩⟩
  | swap c x n g =>
   refine ⟨_,rfl,p,_,_,_,rfl,rfl,hS,rfl,rfl,_,rfl,ifF (by decide +kernel) ?_⟩
   exact ⟨_,rfl,p,_,rfl,hS,fun H' s=>⟨_,rfl,iteT ⟨_,rfl,p,_,_,_,rfl,rfl,s.seqT hS,rfl,q _ s⟩⟩⟩
  | fence g =>
   refine ⟨_,rfl,p,_,_,_,rfl,rfl,hS,rfl,rfl,_,rfl,ifF (by decide +kernel) ?_⟩
   exact ⟨_,rfl,p,_,rfl,hS,fun H' s=>⟨_,rfl,iteF (q _ s)⟩⟩
  | bar g =>
   refine ⟨_,rfl,p,_,_,_,rfl,rfl,hS,rfl,rfl,_,rfl,ifF (by decide +kernel) ?_⟩
   exact ⟨_,rfl,p,_,rfl,hS,fun H' s=>⟨_,rfl,iteF (q _ s)⟩⟩
theorem sc_cupof:FnScope ["deed"] ["deed"] (defScope s_cupof):=⟨rfl,rfl,rfl,by decide +kernel,rfl,by decide +kernel,by decide +kernel⟩
theorem ok_cupof {f:Addr} {fd:FuncData} (F:Fun K "cup_of" "cup_of" s_cupof f fd) (T:Txt K mg) (h_isread:Has P w K mg base 1 "is_read" ["deed"] (sp_isread K)):FnOk P w K mg base CX0 2 f fd ["deed"] (sp_cupof K):=by
 refine F.ok (k:=1) sc_cupof (fun vs H Q E h=>?_) (fun cdv A outer s H vs Q E hr h=>?_)
 ·obtain ⟨p,d,rfl,_⟩:=h
  rfl
 ·obtain ⟨p,d,rfl,hS,q⟩:=h
  refine ⟨_,(pss_one (ps_ret (pe_ifExp (pt_val (pe_fn h_isread (hr.mono (by decide)) (pa_cons (pv 0) pa_nil))) (pe_ix ix_tup (pv 0) pe_int (fun _ _=>rfl)) pe_non))),?_⟩
  try dsimp only [nox_K]
  refine ⟨_,rfl,p,d,rfl,hS,fun H' s=>⟨_,rfl,?_⟩⟩
  cases d with
  | get c x g=>exact iteT ⟨_,rfl,p,_,_,_,rfl,rfl,s.seqT hS,rfl,q _ s⟩
  | swap c x n g=>exact iteT ⟨_,rfl,p,_,_,_,rfl,rfl,s.seqT hS,rfl,q _ s⟩
  | put x n g=>exact iteF (q _ s)
  | fence g=>exact iteF (q _ s)
  | bar g=>exact iteF (q _ s)
theorem sc_guardof:FnScope ["deed"] ["deed"] (defScope s_guardof):=⟨rfl,rfl,rfl,by decide +kernel,rfl,by decide +kernel,by decide +kernel⟩
theorem ok_guardof {f:Addr} {fd:FuncData} (F:Fun K "guard_of" "guard_of" s_guardof f fd) (T:Txt K mg) :FnOk P w K mg base CX0 1 f fd ["deed"] (sp_guardof K):=by
 refine F.ok (k:=0) sc_guardof (fun vs H Q E h=>?_) (fun cdv A outer s H vs Q E hr h=>?_)
 ·obtain ⟨p,d,rfl,_⟩:=h
  rfl
 ·obtain ⟨p,d,rfl,hS,q⟩:=h
  refine ⟨_,(pss_one (ps_ret (pe_ix ix_tup (pv 0) (pe_un un_neg pe_int) (fun _ _=>rfl)))),?_⟩
  try dsimp only [nox_K]
  cases d <;> exact ⟨_,rfl,_,rfl,p,_,_,_,rfl,rfl,hS,rfl,q⟩
theorem sc_pointdeeds:FnScope ["hand"] ["hand"] (defScope s_pointdeeds):=⟨rfl,rfl,rfl,by decide +kernel,rfl,by decide +kernel,by decide +kernel⟩
theorem ok_pointdeeds {f:Addr} {fd:FuncData} (F:Fun K "point_deeds" "point_deeds" s_pointdeeds f fd) (T:Txt K mg) (h_iswrite:Has P w K mg base 1 "is_write" ["deed"] (sp_iswrite K)) (h_isread:Has P w K mg base 1 "is_read" ["deed"] (sp_isread K)):FnOk P w K mg base CX0 2 f fd ["hand"] (sp_pointdeeds K):=by
 refine F.ok (k:=1) sc_pointdeeds (fun vs H Q E h=>?_) (fun cdv A outer s H vs Q E hr h=>?_)
 ·obtain ⟨a,ds,rfl,_⟩:=h
  rfl
 ·obtain ⟨a,ds,rfl,hH,hn,q⟩:=h
  refine ⟨_,(pss_one (ps_ret (pe_comp (Nc:=["deed"]) (nt:=1) (js:=[]) rfl ⟨rfl,rfl,rfl,rfl,.nil,rfl,⟨["deed"],[],rfl,rfl,.nil⟩⟩ (pi_list (pv 0)) (fun C s3 H3 fp pins=>⟨(pg_name (i:=0) (show (["deed"]:List Str).Nodup by decide +kernel) rfl (Or.inl rfl)),(pts_one (PW.pt (pw_or (pt_val (pe_fn h_iswrite (hr.mono (by decide)) (pa_cons (pv 0) pa_nil))) (pw_or1 (pt_val (pe_fn h_isread (hr.mono (by decide)) (pa_cons (pv 0) pa_nil))))))),(pv 0)⟩)))),?_⟩
  try dsimp only [nox_K]
  refine ⟨_,rfl,a,rfl,⟨_,hH.l⟩,fun D hD=>comp_list (xs:=ds.map fun x=>V.ref x.a) (fun i σ ys H'=>Same H H'∧H' D=some (.lst ys)∧ys=(ptsOf (ds.take i)).map (fun x=>V.ref x.a)∧∃ v,σ=[v]) ?_ ?_ ?_ ?_ ?_⟩
  ·exact ⟨Same.new hD,upd_same,rfl,none,rfl⟩
  ·rintro i σ ys H' hi ⟨s,hD',rfl,v,rfl⟩
   refine ⟨s.seq hH.l,hD',?_⟩
   rw [List.length_map]
   exact Nat.le_trans (ptsOf_le _) (by rw [List.length_take]; lia)
  ·rw [List.length_map]; exact Nat.le_of_lt (small1000 (by lia))
  ·rintro i y σ ys H' hy ⟨s,hD',rfl,v,rfl⟩
   obtain ⟨x,hx,rfl⟩:=refs_get hy
   have hd:=hH.ds x (List.mem_of_getElem? hx)
   have e:=ptsOf_take_succ hx
   have yes:∀ {H2:Hp},Same H' H2→pt x.d=true→H2 D=some (.lst ((ptsOf (ds.take i)).map fun x=>V.ref x.a))∧(Same H (upd H2 D (.lst ((ptsOf (ds.take i)).map (fun x=>V.ref x.a) ++ [V.ref x.a])))∧upd H2 D (.lst ((ptsOf (ds.take i)).map (fun x=>V.ref x.a) ++ [V.ref x.a])) D=some (.lst ((ptsOf (ds.take i)).map (fun x=>V.ref x.a) ++ [V.ref x.a]))∧(ptsOf (ds.take i)).map (fun x=>V.ref x.a) ++ [V.ref x.a]=(ptsOf (ds.take (i + 1))).map (fun x=>V.ref x.a)∧∃ v,[some (V.ref x.a)]=[v]):=fun {H2} s2 c=>by
    refine ⟨s2 _ _ hD',Same.at hD (s.trans s2),upd_same,?_,_,rfl⟩
    rw [e,if_pos c,List.map_append]; rfl
   refine ⟨_,rfl,x.a,x.d,rfl,(hd.same s).t,fun H2 s2=>⟨_,rfl,ifB (fun c=>iteT ⟨_,rfl,yes s2 (by unfold pt; rw [c]; rfl)⟩) (fun c=>⟨_,rfl,x.a,x.d,rfl,(hd.same (s.trans s2)).t,fun H3 s3=>⟨_,rfl,ifB (fun c'=>⟨_,rfl,yes (s2.trans s3) (by unfold pt; rw [c,c']; rfl)⟩) (fun c'=>?_)⟩⟩)⟩⟩
   refine ⟨s.trans (s2.trans s3),(s2.trans s3) _ _ hD',?_,_,rfl⟩
   rw [e,if_neg (by unfold pt; rw [c,c']; decide),List.append_nil]
  ·rintro σ ys H' ⟨s,hD',rfl,v,rfl⟩
   refine q D H' s ?_
   rw [hD',List.length_map,List.take_of_length_le (Nat.le_refl _)]
theorem sc_deedat:FnScope ["program","point","h","k","deeds"] ["program","point"] (defScope s_deedat):=⟨rfl,rfl,rfl,by decide +kernel,rfl,by decide +kernel,by decide +kernel⟩
theorem ok_deedat {f:Addr} {fd:FuncData} (F:Fun K "deed_at" "deed_at" s_deedat f fd) (T:Txt K mg) (h_pointdeeds:Has P w K mg base 2 "point_deeds" ["hand"] (sp_pointdeeds K)):FnOk P w K mg base CX0 3 f fd ["program","point"] (sp_deedat K):=by
 refine F.ok (k:=2) sc_deedat (fun vs H Q E h=>?_) (fun cdv A outer s H vs Q E hr h=>?_)
 ·obtain ⟨p,t,hs,S,C,h,k,rfl,_⟩:=h
  rfl
 ·obtain ⟨p,t,hs,S,C,h,k,rfl,hP,G,ht,q⟩:=h
  refine ⟨_,(pss_cons (ps_set (i:=2) sc_deedat.nd rfl (Or.inl rfl) (pe_ix ix_tup (pv 1) pe_int (fun _ _=>rfl)))
   (pss_cons (ps_set (i:=3) sc_deedat.nd rfl (Or.inl rfl) (pe_ix ix_tup (pv 1) pe_int (fun _ _=>rfl)))
   (pss_cons (ps_if (PW.pt (pw_or (pt_cmpR op_lt (pv 2) pe_int (nomark _)) (pw_or (pt_cmpR op_lt (pv 3) pe_int (nomark _)) (pw_or1 (pt_cmpR op_ge (pv 2) (pe_callB call_len_seq rfl T.n_len bt_len (pa_cons (pv 0) pa_nil)) (nomark _))))))
   (pss_one (ps_ret pe_non))
   pss_nil)
   (pss_cons (ps_set (i:=4) sc_deedat.nd rfl (Or.inl rfl) (pe_fn h_pointdeeds (hr.mono (by decide)) (pa_cons (pe_ix ix_list (pv 0) (pv 2) (fun _ _=>rfl)) pa_nil)))
   (pss_one (ps_ret (pe_ifExp (pt_cmpR op_lt (pv 3) (pe_callB call_len_seq rfl T.n_len bt_len (pa_cons (pv 4) pa_nil)) (nomark _)) (pe_ix ix_list (pv 4) (pv 3) (fun _ _=>rfl)) pe_non))))))),?_⟩
  try dsimp only [nox_K]
  refine ⟨_,rfl,t,_,_,_,rfl,rfl,ht,rfl,_,rfl,t,_,_,_,rfl,rfl,ht,rfl,?_⟩
  have no:(h < 0∨k < 0∨(hs.length:Int)≤h)→Q .non H:=fun c=>by
   have:=q H (Same.refl _)
   unfold deedAt at this
   rwa [if_pos c] at this
  refine ⟨_,rfl,_,_,rfl,rfl,_,rfl,ifD (fun c=>iteT (no (.inl c))) (fun c1=>?_)⟩
  refine ⟨_,rfl,_,_,rfl,rfl,_,rfl,ifD (fun c=>iteT (no (.inr (.inl c)))) (fun c2=>?_)⟩
  refine ⟨_,rfl,_,rfl,p,_,rfl,.inl hP.l,_,_,rfl,rfl,_,rfl,ifD (fun c=>no (.inr (.inr (by rw [List.length_map] at c; exact c)))) (fun c3=>?_)⟩
  rw [List.length_map] at c3
  obtain ⟨i,rfl⟩:=Int.eq_ofNat_of_zero_le (by lia:0≤h)
  obtain ⟨j,rfl⟩:=Int.eq_ofNat_of_zero_le (by lia:0≤k)
  have hi:i < hs.length:=by lia
  have hx:hs[i]?=some hs[i]:=List.getElem?_eq_getElem hi
  have hmem:=List.mem_of_getElem? hx
  have q':∀ H',Same H H'→Q (match (ptsOf hs[i].2)[j]? with | some x=>.ref x.a | none=>.non) H':=fun H' s=>by
   have:=q H' s
   unfold deedAt at this
   rw [if_neg (by lia),Int.toNat_natCast,Int.toNat_natCast,handAt_of hx] at this
   exact this
  refine ⟨_,rfl,_,rfl,p,_,_,_,rfl,rfl,hP.l,atI_nat (v:=V.ref hs[i].1) (by rw [List.getElem?_map,hx]; rfl),hs[i].1,hs[i].2,rfl,hP.hs _ hmem,G.nd _ hmem,fun l H2 s2 hl2=>?_⟩
  refine ⟨_,rfl,_,rfl,l,_,rfl,.inl (SqL.of hl2),_,_,rfl,rfl,_,rfl,ifD (fun c=>?_) (fun c=>?_)⟩
  ·rw [List.length_map] at c
   have hj:j < (ptsOf hs[i].2).length:=by lia
   refine ⟨_,rfl,_,rfl,l,_,_,_,rfl,rfl,SqL.of hl2,atI_nat (v:=V.ref (ptsOf hs[i].2)[j].a) (by rw [List.getElem?_map,List.getElem?_eq_getElem hj]; rfl),?_⟩
   have:=q' H2 s2
   rw [List.getElem?_eq_getElem hj] at this
   exact this
  ·rw [List.length_map] at c
   have:=q' H2 s2
   rw [List.getElem?_eq_none (by lia)] at this
   exact this
theorem sc_places:FnScope ["program","named","hand"] ["program"] (defScope s_places):=⟨rfl,rfl,rfl,by decide +kernel,rfl,by decide +kernel,by decide +kernel⟩
theorem ok_places {f:Addr} {fd:FuncData} (F:Fun K "places" "places" s_places f fd) (T:Txt K mg) (h_placeof:Has P w K mg base 2 "place_of" ["deed"] (sp_placeof K)) (h_pointdeeds:Has P w K mg base 2 "point_deeds" ["hand"] (sp_pointdeeds K)):FnOk P w K mg base CX0 3 f fd ["program"] (sp_places K):=by
 refine F.ok (k:=2) sc_places (fun vs H Q E h=>?_) (fun cdv A outer s H vs Q E hr h=>?_)
 ·obtain ⟨p,hs,S,C,rfl,_⟩:=h
  rfl
 ·obtain ⟨p,hs,S,C,rfl,hP,G,q⟩:=h
  refine ⟨_,(pss_cons (ps_set (i:=1) sc_places.nd rfl (Or.inl rfl) (pe_lst pa_nil))
   (pss_cons (ps_for PassesOwn.never rfl (pi_list (pv 0)) (pg_name (i:=2) sc_places.nd rfl (Or.inl rfl))
   (pss_one (ps_expr (pe_bm PySem.F.plainAttrs_list PySem.F.slot_list_extend PySem.F.type_list_extend mt_extend (pv 1) (pa_cons (pe_comp (Nc:=["deed"]) (nt:=1) (js:=[]) rfl ⟨rfl,rfl,rfl,rfl,.nil,rfl,⟨["deed"],[],rfl,rfl,.nil⟩⟩ (pi_list (pe_fn h_pointdeeds (hr.mono (by decide)) (pa_cons (pv 2) pa_nil))) (fun C s3 H3 fp pins=>⟨(pg_name (i:=0) (show (["deed"]:List Str).Nodup by decide +kernel) rfl (Or.inl rfl)),pts_nil,(pe_fn h_placeof (hr.mono (by decide)) (pa_cons (pv 0) pa_nil))⟩)) pa_nil)))))
   (pss_one (ps_ret (pe_callB (call_sorted_set rfl) rfl T.n_sorted bt_sorted (pa_cons (pe_callTy (call_set_of rfl) rfl T.n_set bt_set (pa_cons (pv 1) pa_nil)) pa_nil)))))),?_⟩
  try dsimp only [nox_K]
  refine ⟨by decide,fun f hf=>⟨_,rfl,p,rfl,⟨_,(Same.new hf).seq hP.l⟩,for_list (xs:=hs.map fun h=>V.ref h.1) (fun i σ H'=>∃ v2,Same H H'∧H' f=some (.lst ((spotsTo hs i).map V.str))∧σ=[some (.ref p),some (.ref f),v2]) ?_ ?_ ?_ ?_⟩⟩
  ·exact ⟨none,Same.new hf,upd_same,rfl⟩
  ·rintro i σ H' _ ⟨v2,s,_⟩
   exact s.seq hP.l
  ·rintro i y σ H' hy ⟨v2,s,hf',rfl⟩
   obtain ⟨hd,hx,rfl⟩:=refs_get hy
   have hmem:=List.mem_of_getElem? hx
   have hilt:i < hs.length:=(List.getElem?_eq_some_iff.mp hx).1
   have hH:=(hP.hs hd hmem).same s
   refine ⟨_,rfl,.inl ⟨rfl,_,SqL.of hf'⟩,_,rfl,hd.1,hd.2,rfl,hH,G.nd hd hmem,fun l H2 s2 hl2=>⟨l,rfl,⟨_,SqL.of hl2⟩,fun D hD=>?_⟩⟩
   refine comp_list (xs:=(ptsOf hd.2).map fun x=>V.ref x.a) (fun j σ ys H3=>∃ v,Same H2 H3∧H3 D=some (.lst ys)∧ys=((((ptsOf hd.2).take j).flatMap fun x=>spot x.d)).map V.str∧σ=[v]) ?_ ?_ ?_ ?_ ?_
   ·exact ⟨none,Same.new hD,upd_same,rfl,rfl⟩
   ·rintro j σ ys H3 hj ⟨v,s3,hD3,rfl,rfl⟩
    refine ⟨s3.seq (SqL.of hl2),hD3,?_⟩
    rw [List.length_map]
    exact Nat.le_trans (flat_len (fun x=>spot_len x.d) _) (by rw [List.length_take]; lia)
   ·rw [List.length_map]
    have:=ptsOf_le hd.2
    have:=G.nd hd hmem
    exact Nat.le_of_lt (small1000 (by lia))
   ·rintro j y σ ys H3 hy ⟨v,s3,hD3,rfl,rfl⟩
    obtain ⟨x,hx2,rfl⟩:=refs_get hy
    have hxm:=List.mem_of_getElem? hx2
    obtain ⟨hxd,hxp⟩:=List.mem_filter.mp hxm
    obtain ⟨z,z1,z2⟩:=place_spot hxp
    refine ⟨_,rfl,x.a,x.d,rfl,(((hH.ds x hxd).same s2).same s3).t,fun H4 s4=>⟨s4 _ _ hD3,_,Same.at hD (s3.trans s4),upd_same,?_,rfl⟩⟩
    rw [flat_take_succ (fun x=>spot x.d) hx2,List.map_append,z1,z2]
    rfl
   ·rintro σ ys H3 ⟨v,s3,hD3,rfl,rfl⟩
    rw [List.length_map,List.take_of_length_le (Nat.le_refl _),flat_pts] at hD3
    have hf3:=s3 _ _ (s2 _ _ hf')
    have e1:=spotsTo_len G i
    have e2:(hd.2.flatMap fun x=>spot x.d).length≤40:=Nat.le_trans (flat_len (fun x=>spot_len x.d) _) (G.nd hd hmem)
    have:=G.nh
    refine ⟨f,D,_,_,rfl,rfl,hf3,hD3,?_,_,Same.at hf (s.trans (s2.trans s3)),?_,rfl⟩
    ·rw [List.length_map,List.length_map]
     exact Nat.le_of_lt (small1000 (by lia))
    ·rw [upd_same]
     show _=some (HO.lst ((spotsTo hs i ++ (handAt hs i).flatMap fun x=>spot x.d).map V.str))
     rw [handAt_of hx,List.map_append]
  ·rintro σ H' ⟨v2,s,hf',rfl⟩
   rw [List.length_map] at hf'
   have e1:=spotsTo_len G hs.length
   have:=G.nh
   refine ⟨_,rfl,f,spotsTo hs hs.length,rfl,SqL.of hf',by lia,fun l us hl nd hm hle=>⟨l,us,rfl,upd_same,?_,nd,fun l' vs hl' hp hr=>?_⟩⟩
   ·have:=nodup_le nd (S:=S) fun z hz=>spotsTo_mem G _ z ((hm z).mp hz)
    have:=G.ns
    lia
   ·exact q l' vs _ (s.trans ((Same.new hl).then hl')) ((s.trans (Same.new hl)).free hl') upd_same hr fun z=>(hp.mem_iff.trans (hm z))
theorem sc_numberof:FnScope ["deed"] ["deed"] (defScope s_numberof):=⟨rfl,rfl,rfl,by decide +kernel,rfl,by decide +kernel,by decide +kernel⟩
theorem ok_numberof {f:Addr} {fd:FuncData} (F:Fun K "number_of" "number_of" s_numberof f fd) (T:Txt K mg) (h_iswrite:Has P w K mg base 1 "is_write" ["deed"] (sp_iswrite K)):FnOk P w K mg base CX0 2 f fd ["deed"] (sp_numberof K):=by
 refine F.ok (k:=1) sc_numberof (fun vs H Q E h=>?_) (fun cdv A outer s H vs Q E hr h=>?_)
 ·obtain ⟨p,d,rfl,_⟩:=h
  rfl
 ·obtain ⟨p,d,rfl,hS,q⟩:=h
  refine ⟨_,(pss_one (ps_ret (pe_ifExp (pt_val (pe_fn h_iswrite (hr.mono (by decide)) (pa_cons (pv 0) pa_nil))) (pe_ix ix_tup (pv 0) (pe_un un_neg pe_int) (fun _ _=>rfl)) pe_non))),?_⟩
  try dsimp only [nox_K]
  refine ⟨_,rfl,p,d,rfl,hS,fun H' s=>⟨_,rfl,?_⟩⟩
  cases d with
  | put x n g=>exact iteT ⟨_,rfl,_,rfl,p,_,_,_,rfl,rfl,s.seqT hS,rfl,q _ s⟩
  | swap c x n g=>exact iteT ⟨_,rfl,_,rfl,p,_,_,_,rfl,rfl,s.seqT hS,rfl,q _ s⟩
  | get c x g=>exact iteF (q _ s)
  | fence g=>exact iteF (q _ s)
  | bar g=>exact iteF (q _ s)
theorem sc_numberat:FnScope ["program","source"] ["program","source"] (defScope s_numberat):=⟨rfl,rfl,rfl,by decide +kernel,rfl,by decide +kernel,by decide +kernel⟩
theorem ok_numberat {f:Addr} {fd:FuncData} (F:Fun K "number_at" "number_at" s_numberat f fd) (T:Txt K mg) (h_numberof:Has P w K mg base 2 "number_of" ["deed"] (sp_numberof K)) (h_deedat:Has P w K mg base 3 "deed_at" ["program","point"] (sp_deedat K)):FnOk P w K mg base CX0 4 f fd ["program","source"] (sp_numberat K):=by
 refine F.ok (k:=3) sc_numberat (fun vs H Q E h=>?_) (fun cdv A outer s H vs Q E hr h=>?_)
 ·obtain ⟨p,hs,S,C,sv,src,rfl,_⟩:=h
  rfl
 ·obtain ⟨p,hs,S,C,sv,src,rfl,hP,G,hv,hw,q⟩:=h
  refine ⟨_,(pss_one (ps_ret (pe_ifExp (pt_cmpR op_isN (pv 1) pe_non (nomark _)) pe_int (pe_fn h_numberof (hr.mono (by decide)) (pa_cons (pe_fn h_deedat (hr.mono (by decide)) (pa_cons (pv 0) (pa_cons (pv 1) pa_nil))) pa_nil))))),?_⟩
  try dsimp only [nox_K]
  cases src with
  | none =>
   cases (show sv=.non from hv)
   exact ⟨_,rfl,rfl,_,rfl,ifDt rfl (q _ (Same.refl _))⟩
  | some z =>
   obtain ⟨t,rfl,ht⟩:=hv
   refine ⟨_,rfl,rfl,_,rfl,ifDf (fun z=>nomatch z) ?_⟩
   obtain ⟨x,hx,hwr⟩:=writeAt_some (hw z rfl)
   refine ⟨_,rfl,_,rfl,p,t,hs,S,C,z.1,z.2,rfl,hP,G,ht,fun H' s=>?_⟩
   rw [deedAt_of hx]
   refine ⟨x.a,x.d,rfl,((ddAt_deed hP hx).same s).t,fun H2 s2=>?_⟩
   have e:x.d.number=.int (numAt hs (some z)):=by
    show x.d.number=.int (match ddAt hs z with | some x=>numOf x.d | none=>0)
    rw [hx]
    exact numOf_eq hwr
   rw [e]
   exact q H2 (s.trans s2)
theorem sc_writes:FnScope ["program","point","deed"] ["program","point"] (defScope s_writes):=⟨rfl,rfl,rfl,by decide +kernel,rfl,by decide +kernel,by decide +kernel⟩
theorem ok_writes {f:Addr} {fd:FuncData} (F:Fun K "writes" "writes" s_writes f fd) (T:Txt K mg) (h_deedat:Has P w K mg base 3 "deed_at" ["program","point"] (sp_deedat K)) (h_iswrite:Has P w K mg base 1 "is_write" ["deed"] (sp_iswrite K)):FnOk P w K mg base CX0 4 f fd ["program","point"] (sp_writes K):=by
 refine F.ok (k:=3) sc_writes (fun vs H Q E h=>?_) (fun cdv A outer s H vs Q E hr h=>?_)
 ·obtain ⟨p,t,hs,S,C,z,rfl,_⟩:=h
  rfl
 ·obtain ⟨p,t,hs,S,C,z,rfl,hP,G,ht,q⟩:=h
  refine ⟨_,(pss_cons (ps_set (i:=2) sc_writes.nd rfl (Or.inl rfl) (pe_fn h_deedat (hr.mono (by decide)) (pa_cons (pv 0) (pa_cons (pv 1) pa_nil))))
   (pss_one (ps_ret (pe_and (pe_cmpR op_notN (pv 2) pe_non (nomark _)) (pe_one (pe_fn h_iswrite (hr.mono (by decide)) (pa_cons (pv 2) pa_nil))))))),?_⟩
  try dsimp only [nox_K]
  refine ⟨_,rfl,_,rfl,p,t,hs,S,C,z.1,z.2,rfl,hP,G,ht,fun H' s=>?_⟩
  cases hx:ddAt hs z with
  | none =>
   rw [deedAt_none hx]
   refine ⟨_,rfl,rfl,_,rfl,?_⟩
   refine ifNf rfl (qb (q H' s) ?_)
   unfold writeAt; rw [hx]
  | some x =>
   rw [deedAt_of hx]
   refine ⟨_,rfl,rfl,_,rfl,ifNt (fun z=>nomatch z) ⟨_,rfl,x.a,x.d,rfl,((ddAt_deed hP hx).same s).t,fun H2 s2=>qb (q H2 (s.trans s2)) ?_⟩⟩
   unfold writeAt; rw [hx]
end
end Own
set_option Elab.async false
set_option linter.all false
set_option maxRecDepth 100000
set_option maxHeartbeats 4100000
namespace Own
open PySem L2
noncomputable def Ints (kvs:List (Key×V)):Prop:=∀ kv∈kvs,(∃ y:Str,kv.1=Sum.inr y)∧∃ n:Int,kv.2=.int n
noncomputable def thereV (kvs:List (Key×V)) (x:Str):V:=(valV kvs (Sum.inr x)).getD (.int 0)
theorem valV_someMem {kvs:List (Key×V)} {k:Key} {v:V} (h:valV kvs k=some v):(k,v)∈kvs:=by
 induction kvs with
 | nil=>cases h
 | cons p r ih =>
  by_cases e:p.1=k
  ·rw [valV_pos e] at h
   have e2:p.2=v:=Option.some.inj h
   have:p=(k,v):=by rw [← e,← e2]
   rw [← this]
   exact List.mem_cons_self ..
  ·rw [valV_neg e] at h
   exact List.mem_cons_of_mem _ (ih h)
theorem there_int {kvs:List (Key×V)} (h:Ints kvs) (x:Str):∃ n:Int,thereV kvs x=.int n:=by
 unfold thereV
 cases e:valV kvs (Sum.inr x) with
 | none=>exact ⟨0,rfl⟩
 | some v=>exact (h _ (valV_someMem e)).2
theorem Ints.put {kvs:List (Key×V)} (h:Ints kvs) (x:Str) (n:Int):Ints (putK kvs (Sum.inr x) (.int n)):=by
 intro kv hkv
 unfold putK at hkv
 split at hkv
 ·obtain ⟨p,hp,e⟩:=List.mem_map.mp hkv
  by_cases c:p.1=Sum.inr x
  ·rw [if_pos c] at e
   subst e
   exact ⟨⟨x,c⟩,n,rfl⟩
  ·rw [if_neg c] at e
   subst e
   exact h p hp
 ·rcases List.mem_append.mp hkv with hp | hp
  ·exact h kv hp
  ·have e:=List.mem_singleton.mp hp
   subst e
   exact ⟨⟨x,rfl⟩,n,rfl⟩
noncomputable def holdsV (wd:Str) (v:V) (n:Int):Bool:=if wd="when" then decide (v=.int n) else !decide (v=.int n)
noncomputable abbrev Z2:=Int×Int
noncomputable def pk (z:Z2):List Key:=[Sum.inl z.1,Sum.inl z.2]
theorem pk_inj {a b:Z2} (h:pk a=pk b):a=b:=by
 unfold pk at h
 simp only [List.cons.injEq,Sum.inl.injEq,and_true] at h
 exact Prod.ext h.1 h.2
noncomputable abbrev Done:=List (Z2×DD)
noncomputable def doneK (ds:Done):List (List Key×V):=ds.map fun q=>(pk q.1,V.ref q.2.a)
theorem val_done:∀ {ds:Done} {q:Z2×DD},(ds.map (·.1)).Nodup→q∈ds→valV (doneK ds) (pk q.1)=some (.ref q.2.a)
 | [],_,_,h=>(List.not_mem_nil h).elim
 | r :: ds,q,nd,h=>by
  rw [List.map_cons,List.nodup_cons] at nd
  unfold doneK
  rw [List.map_cons]
  rcases List.mem_cons.mp h with rfl | h
  ·exact valV_pos rfl
  ·rw [valV_neg (fun e=>nd.1 (by rw [pk_inj e]; exact List.mem_map.mpr ⟨q,h,rfl⟩))]
   exact val_done nd.2 h
theorem put_done {ds:Done} {z:Z2} {x:DD} (h:∀ q∈ds,q.1≠z):putK (doneK ds) (pk z) (.ref x.a)=doneK (ds ++ [(z,x)]):=by
 unfold putK
 have e:((doneK ds).any fun kv=>decide (kv.1=pk z))=false:=by
  rw [Bool.eq_false_iff]
  intro c
  obtain ⟨kv,hk,he⟩:=List.any_eq_true.mp c
  obtain ⟨q,hq,rfl⟩:=List.mem_map.mp hk
  exact h q hq (pk_inj (of_decide_eq_true he))
 rw [if_neg (by rw [e]; exact Bool.false_ne_true)]
 unfold doneK
 rw [List.map_append]
 rfl
noncomputable def isTo (pl:Str) (q:Z2×DD):Bool:=q.2.d.writes && decide (q.2.d.place=.str pl)
noncomputable def writersTo (ds:Done) (pl:Str):List Z2:=(ds.filter (isTo pl)).map (·.1)
structure PtsAt (H:Hp) (ps:List TK) (zs:List Z2):Prop where
 eq:ps.map (·.2)=zs.map pk
 at_:∀ q∈ps,H q.1=some (.tup (q.2.map kV))
theorem PtsAt.same {H H':Hp} {ps:List TK} {zs:List Z2} (s:Same H H') (h:PtsAt H ps zs):PtsAt H' ps zs:=⟨h.eq,fun q hq=>s _ _ (h.at_ q hq)⟩
theorem PtsAt.nil {H:Hp}:PtsAt H [] []:=⟨rfl,fun q hq=>nomatch hq⟩
theorem PtsAt.len {H:Hp} {ps:List TK} {zs:List Z2} (h:PtsAt H ps zs):ps.length=zs.length:=by have:=congrArg List.length h.eq; simpa using this
theorem PtsAt.snoc {H:Hp} {ps:List TK} {zs:List Z2} {a:Addr} {z:Z2} (h:PtsAt H ps zs) (ha:H a=some (.tup ((pk z).map kV))):PtsAt H (ps ++ [(a,pk z)]) (zs ++ [z]):=by
 refine ⟨by rw [List.map_append,List.map_append,h.eq]; rfl,fun q hq=>?_⟩
 rcases List.mem_append.mp hq with hq | hq
 ·exact h.at_ q hq
 ·rw [List.mem_singleton.mp hq]; exact ha
noncomputable def SrcD (K:PySem.W.Frag) (H:Hp) (d:Addr) (src:Z2→Option (Option Z2)):Prop:=∃ kvs,H d=some (.dT kvs)∧∀ z,match src z with
 | none=>valV kvs (pk z)=none
 | some o=>∃ v,valV kvs (pk z)=some v∧SrcV K H v o
theorem SrcD.same {K:PySem.W.Frag} {H H':Hp} {d:Addr} {src:Z2→Option (Option Z2)} (s:Same H H') (h:SrcD K H d src):SrcD K H' d src:=by
 obtain ⟨kvs,h1,h2⟩:=h
 refine ⟨kvs,s _ _ h1,fun z=>?_⟩
 have:=h2 z
 cases e:src z with
 | none=>rw [e] at this; exact this
 | some o=>rw [e] at this; obtain ⟨v,g1,g2⟩:=this; exact ⟨v,g1,g2.same s⟩
theorem upd_none {H:Hp} {a b:Addr} {o:HO} (h:upd H a o b=none):b≠a∧H b=none:=by
 by_cases c:b=a
 ·subst c; rw [upd_same] at h; cases h
 ·rw [upd_ne c] at h; exact ⟨c,h⟩
theorem SqT.froz {K:PySem.W.Frag} {H:Hp} {a d:Addr} {xs:List V} {kvs:List (List Key×V)} {o:HO} (hd:H d=some (.dT kvs)) (h:SqT K H a xs):SqT K (upd H d o) a xs:=by
 rcases h with (h | ⟨u,h⟩) | h
 ·exact .inl (.inl (by rw [upd_ne (ne_of h hd (by intro z; cases z))]; exact h))
 ·exact .inl (.inr ⟨u,by rw [upd_ne (ne_of h hd (by intro z; cases z))]; exact h⟩)
 ·exact .inr h
noncomputable def holdsG (g:Option (Str×Str×Int)) (has:List (Key×V)):Bool:=match g with
 | none=>true
 | some (w,c,n)=>holdsV w (thereV has c) n
noncomputable def GOk (K:PySem.W.Frag) (H:Hp) (g:V):Option (Str×Str×Int)→Prop
 | none=>g=.non
 | some (w,c,n)=>∃ q:Addr,g=.ref q∧SqT K H q [.str w,.str c,.int n]
theorem DD.gok_ok {K:PySem.W.Frag} {H:Hp} {x:DD} (h:x.gok K H):GOk K H x.d.guard x.g:=by
 unfold DD.gok at h
 cases e:x.g with
 | none=>rw [e] at h; exact h
 | some c=>rw [e] at h; exact h
inductive Sp_holds (K:PySem.W.Frag) (vs:List V) (H:Hp) (Q:VK) (E_:XK):Prop
 | mk (g:V) (d:Addr) (kvs:List (Key×V)) (go:Option (Str×Str×Int)) (h0_:vs=[g,.ref d]) (h1_:H d=some (.dK kvs)) (h2_:Ints kvs) (h3_:GOk K H g go) (h4_:Q (.bl (holdsG go kvs)) H):Sp_holds K vs H Q E_
noncomputable def sp_holds (K:PySem.W.Frag):Sp:=Sp_holds K
inductive Sp_numbered (K:PySem.W.Frag) (vs:List V) (H:Hp) (Q:VK) (E_:XK):Prop
 | mk (a:Addr) (ds:List DD) (h0_:vs=[.ref a]) (h1_:IsHand K H a ds) (h2_:ds.length≤40) (h3_:∀ (l:Addr) (ts:List Addr) (H':Hp),Same H H'→H l=none→H' l=some (.lst (ts.map V.ref))→ts.length=ds.length→(∀ (i:Nat) (t:Addr) (x:DD),ts[i]?=some t→ds[i]?=some x→H' t=some (.tup [.int (npts (ds.take i)),.ref x.a]))→Q (.ref l) H'):Sp_numbered K vs H Q E_
noncomputable def sp_numbered (K:PySem.W.Frag):Sp:=Sp_numbered K
noncomputable def walkF (dn st fl:Addr):List (Str×V):=[("done",.ref dn),("stops",.ref st),("filled",.ref fl)]
inductive Sp_Walkinit (K:PySem.W.Frag) (vs:List V) (H:Hp) (Q:VK) (E_:XK):Prop
 | mk (p:Addr) (dx:Addr) (h0_:vs=[.ref p]) (h1_:H p=some (.ins (cA K "Walk") dx [])) (h2_:∀ (dn st fl:Addr) (H':Hp),H dn=none→H st=none→H fl=none→dn≠st→dn≠fl→st≠fl→(∀ b u,H b=some u→b≠p→H' b=some u)→H' p=some (.ins (cA K "Walk") dx (walkF dn st fl))→H' dn=some (.dT [])→H' st=some (.lst [])→H' fl=some (.lst [])→Q .non H'):Sp_Walkinit K vs H Q E_
noncomputable def sp_Walkinit (K:PySem.W.Frag):Sp:=Sp_Walkinit K
inductive Sp_numberread (K:PySem.W.Frag) (vs:List V) (H:Hp) (Q:VK) (E_:XK):Prop
 | mk (p:Addr) (d:Addr) (t:Addr) (hs:Hands) (S:List Str) (C:List Str) (src:Z2→Option (Option Z2)) (z:Z2) (o:Option Z2) (h0_:vs=[.ref p,.ref d,.ref t]) (h1_:IsProg K H p hs) (h2_:Good S C hs) (h3_:SrcD K H d src) (h4_:H t=some (.tup ((pk z).map kV))) (h5_:src z=some o) (h6_:(∀ w,o=some w→writeAt hs w=true)) (h7_:∀ H',Same H H'→Q (.int (numAt hs o)) H'):Sp_numberread K vs H Q E_
noncomputable def sp_numberread (K:PySem.W.Frag):Sp:=Sp_numberread K
inductive Sp_writersto (K:PySem.W.Frag) (vs:List V) (H:Hp) (Q:VK) (E_:XK):Prop
 | mk (d:Addr) (ds:Done) (pl:Str) (h0_:vs=[.ref d,.str pl]) (h1_:H d=some (.dT (doneK ds))) (h2_:ds.length≤240) (h3_:(ds.map (·.1)).Nodup) (h4_:(∀ q∈ds,IsDeed K H q.2)) (h5_:∀ (l:Addr) (ps:List TK) (H':Hp),Same H H'→H l=none→H' l=some (.lst (ps.map fun q=>V.ref q.1))→PtsAt H' ps (writersTo ds pl)→Q (.ref l) H'):Sp_writersto K vs H Q E_
noncomputable def sp_writersto (K:PySem.W.Frag):Sp:=Sp_writersto K
inductive BI1 (H:Hp) (f:Addr) (ds:List DD) (a:Addr) (i:Nat) (σ:St) (H':Hp):Prop
 | mk (ts:List Addr) (v:Option V) (h0_:Same H H') (h1_:H' f=some (.lst (ts.map V.ref))) (h2_:ts.length=i) (h3_:(∀ (j:Nat) (t:Addr) (x:DD),ts[j]?=some t→ds[j]?=some x→H' t=some (.tup [.int (npts (ds.take j)),.ref x.a]))) (h4_:σ=[some (.ref a),some (.ref f),some (.int (npts (ds.take i))),v]):BI1 H f ds a i σ H'
inductive BI2 (H:Hp) (d:Addr) (ob:Obj) (ds:Done) (D:Addr) (pl:Str) (i:Nat) (σ:St) (ys:List V) (H':Hp):Prop
 | mk (ps:List TK) (v:Option V) (h0_:Same (upd H d (.frz ob (.dT (doneK ds)))) H') (h1_:H' D=some (.lst ys)) (h2_:ys=(ps.map fun q=>V.ref q.1)) (h3_:PtsAt H' ps (writersTo (ds.take i) pl)) (h4_:ps.length≤i) (h5_:σ=[v,some (.str pl),some (.ref d)]):BI2 H d ob ds D pl i σ ys H'
section
variable {P:Program} {w:World} {K:PySem.W.Frag} {mg:Str→Option Value} {base:Heap}
theorem sc_holds:FnScope ["guard","cups","has_it"] ["guard","cups"] (defScope s_holds):=⟨rfl,rfl,rfl,by decide +kernel,rfl,by decide +kernel,by decide +kernel⟩
theorem ok_holds {f:Addr} {fd:FuncData} (F:Fun K "holds" "holds" s_holds f fd) (T:Txt K mg) :FnOk P w K mg base CX0 1 f fd ["guard","cups"] (sp_holds K):=by
 refine F.ok (k:=0) sc_holds (fun vs H Q E h=>?_) (fun cdv A outer s H vs Q E hr h=>?_)
 ·obtain ⟨g,d,kvs,go,rfl,_⟩:=h
  rfl
 ·obtain ⟨g,d,kvs,go,rfl,hd,hi,h,q⟩:=h
  have hu:=hu_of hr
  refine ⟨_,(pss_cons (ps_if (pt_cmpR op_isN (pv 0) pe_non (nomark _))
   (pss_one (ps_ret pe_bl))
   pss_nil)
   (pss_cons (ps_set (i:=2) sc_holds.nd rfl (Or.inl rfl) (pe_cmpR op_eq (pe_dget2 hu (pv 1) (pe_ix ix_tup (pv 0) pe_int (fun _ _=>rfl)) pe_int ⟨rfl,rfl,rfl,rfl⟩) (pe_ix ix_tup (pv 0) pe_int (fun _ _=>rfl)) (nomark _)))
   (pss_one (ps_ret (pe_ifExp (pt_cmpR op_eq (pe_ix ix_tup (pv 0) pe_int (fun _ _=>rfl)) pe_str (nomark _)) (pv 2) (pe_not (pv 2))))))),?_⟩
  try dsimp only [nox_K]
  rcases go with _ | ⟨wd,c,n⟩
  ·cases (show g=.non from h)
   exact ⟨_,rfl,rfl,_,rfl,ifDt rfl q⟩
  ·obtain ⟨p,rfl,hp⟩:=h
   have q:Q (.bl (holdsV wd (thereV kvs c) n)) H:=q
   obtain ⟨m,hm⟩:=there_int hi c
   refine ⟨_,rfl,rfl,_,rfl,ifDf (fun z=>nomatch z) ?_⟩
   have hm':(valV kvs (Sum.inr c:Key)).getD (.int 0)=.int m:=hm
   refine ⟨_,rfl,d,rfl,.inl ⟨kvs,.inl hd⟩,_,rfl,p,_,_,_,rfl,rfl,hp,rfl,_,DGet.k (k:=Sum.inr c) hd,_,rfl,p,_,_,_,rfl,rfl,hp,rfl,?_,?_⟩
   ·show scal ((valV kvs (Sum.inr c:Key)).getD (.int 0)) (.int n)=true
    rw [hm']; rfl
   ·refine ⟨_,rfl,p,_,_,_,rfl,rfl,hp,rfl,rfl,_,rfl,ifD (fun e=>⟨_,rfl,qb q ?_⟩) (fun e=>⟨_,rfl,_,rfl,qb q ?_⟩)⟩
    ·have e':wd="when":=by injection e
     unfold holdsV
     rw [if_pos e']
     rfl
    ·have e':¬ wd="when":=fun z=>e (by rw [z])
     unfold holdsV
     rw [if_neg e']
     rfl
theorem sc_numbered:FnScope ["hand","pairs","k","deed"] ["hand"] (defScope s_numbered):=⟨rfl,rfl,rfl,by decide +kernel,rfl,by decide +kernel,by decide +kernel⟩
theorem ok_numbered {f:Addr} {fd:FuncData} (F:Fun K "numbered" "numbered" s_numbered f fd) (T:Txt K mg) (h_placeof:Has P w K mg base 2 "place_of" ["deed"] (sp_placeof K)):FnOk P w K mg base CX0 3 f fd ["hand"] (sp_numbered K):=by
 refine F.ok (k:=2) sc_numbered (fun vs H Q E h=>?_) (fun cdv A outer s H vs Q E hr h=>?_)
 ·obtain ⟨a,ds,rfl,_⟩:=h
  rfl
 ·obtain ⟨a,ds,rfl,hH,hn,q⟩:=h
  refine ⟨_,(pss_cons (ps_set (i:=1) sc_numbered.nd rfl (Or.inl rfl) (pe_lst pa_nil))
   (pss_cons (ps_set (i:=2) sc_numbered.nd rfl (Or.inl rfl) pe_int)
   (pss_cons (ps_for PassesOwn.never rfl (pi_list (pv 0)) (pg_name (i:=3) sc_numbered.nd rfl (Or.inl rfl))
   (pss_cons (ps_expr (pe_bm PySem.F.plainAttrs_list PySem.F.slot_list_append PySem.F.type_list_append mt_append (pv 1) (pa_cons (pe_tup (pa_cons (pv 2) (pa_cons (pv 3) pa_nil))) pa_nil)))
   (pss_one (ps_if (pt_cmpR op_notN (pe_fn h_placeof (hr.mono (by decide)) (pa_cons (pv 3) pa_nil)) pe_non (nomark _))
   (pss_one (ps_aug (i:=2) sc_numbered.nd rfl (Or.inl rfl) pe_int ip_add))
   pss_nil))))
   (pss_one (ps_ret (pv 1)))))),?_⟩
  try dsimp only [nox_K]
  refine ⟨by decide,fun f hf=>⟨_,rfl,a,rfl,⟨_,(Same.new hf).seq hH.l⟩,for_list (xs:=ds.map fun x=>V.ref x.a) (BI1 H f ds a) ?_ ?_ ?_ ?_⟩⟩
  ·exact ⟨[],none,Same.new hf,upd_same,rfl,(fun j t x e=>by simp at e),rfl⟩
  ·rintro i σ H' _ ⟨ts,v,s,_⟩
   exact s.seq hH.l
  ·rintro i y σ H' hy ⟨ts,v,s,hf',hl,ht,rfl⟩
   obtain ⟨x,hx,rfl⟩:=refs_get hy
   have hi:i < ds.length:=(List.getElem?_eq_some_iff.mp hx).1
   have hd:=hH.ds x (List.mem_of_getElem? hx)
   refine ⟨_,rfl,.inl ⟨rfl,_,SqL.of hf'⟩,_,rfl,_,rfl,(by show 2≤sizeLine; decide),fun t htn=>?_⟩
   have s1:Same H' (upd H' t (.tup [.int (npts (ds.take i)),.ref x.a])):=Same.new htn
   have s2:Same H (upd (upd H' t (.tup [.int (npts (ds.take i)),.ref x.a])) f (.lst (ts.map V.ref ++ [.ref t]))):=Same.at hf (s.trans s1)
   have nf:t≠f:=Ne.symm (ne_of_none hf' htn)
   have ht':∀ (j:Nat) t' x',(ts ++ [t])[j]?=some t'→ds[j]?=some x'→(upd (upd H' t (.tup [.int (npts (ds.take i)),.ref x.a])) f (.lst (ts.map V.ref ++ [.ref t]))) t'=some (.tup [.int (npts (ds.take j)),.ref x'.a]):=fun j t' x' e1 e2=>by
    by_cases c:j < ts.length
    ·rw [List.getElem?_append_left c] at e1
     have g:=ht j t' x' e1 e2
     rw [upd_ne (ne_of g hf' (by intro z; cases z)),upd_ne (ne_of_none g htn)]
     exact g
    ·have e3:j=ts.length:=by
      have:=(List.getElem?_eq_some_iff.mp e1).1
      rw [List.length_append,List.length_cons,List.length_nil] at this
      lia
     subst e3
     rw [List.getElem?_append_right (Nat.le_refl _),Nat.sub_self] at e1
     cases e1
     rw [hl,hx] at e2
     cases e2
     rw [upd_ne nf,upd_same,hl]
   have hz:(ts.map V.ref).length < sizeLine:=by rw [List.length_map]; exact small1000 (by lia)
   refine ⟨f,_,_,rfl,rfl,s1 _ _ hf',hz,?_⟩
   have e:=ptsOf_take_succ hx
   refine ⟨_,rfl,x.a,x.d,rfl,(hd.same s2).t,fun H3 s3=>?_⟩
   by_cases c:pt x.d=true
   ·obtain ⟨z,z1,z2⟩:=place_spot c
    rw [z2]
    refine ⟨rfl,_,rfl,ifNt (fun z=>nomatch z) ⟨_,rfl,_,_,rfl,rfl,ts ++ [t],some (.ref x.a),s2.trans s3,by rw [s3 _ _ upd_same,List.map_append]; rfl,by rw [List.length_append,hl]; rfl,fun j t' x' e1 e2=>s3 _ _ (ht' j t' x' e1 e2),?_⟩⟩
    have e2:(npts (ds.take (i + 1)):Int)=(npts (ds.take i):Int) + 1:=by
     unfold npts
     rw [e,if_pos c,List.length_append]
     rfl
    rw [e2]; rfl
   ·have c':pt x.d=false:=by simpa using c
    rw [place_none c']
    refine ⟨rfl,_,rfl,ifNf rfl ⟨ts ++ [t],some (.ref x.a),s2.trans s3,by rw [s3 _ _ upd_same,List.map_append]; rfl,by rw [List.length_append,hl]; rfl,fun j t' x' e1 e2=>s3 _ _ (ht' j t' x' e1 e2),?_⟩⟩
    have e2:(npts (ds.take (i + 1)):Int)=(npts (ds.take i):Int):=by
     unfold npts
     rw [e,if_neg c,List.append_nil]
    rw [e2]; rfl
  ·rintro σ H' ⟨ts,v,s,hf',hl,ht,rfl⟩
   rw [List.length_map] at hl
   exact ⟨_,rfl,q f ts H' s hf hf' hl ht⟩
theorem sc_Walkinit:FnScope ["self"] ["self"] (defScope s_Walkinit):=⟨rfl,rfl,rfl,by decide +kernel,rfl,by decide +kernel,by decide +kernel⟩
theorem ok_Walkinit {f:Addr} {fd:FuncData} (F:Fun K "__init__" "Walk.__init__" s_Walkinit f fd) (T:Txt K mg) :FnOk P w K mg base CX0 1 f fd ["self"] (sp_Walkinit K):=by
 refine F.ok (k:=0) sc_Walkinit (fun vs H Q E h=>?_) (fun cdv A outer s H vs Q E hr h=>?_)
 ·obtain ⟨p,dx,rfl,_⟩:=h
  rfl
 ·obtain ⟨p,dx,rfl,hp,k⟩:=h
  refine ⟨_,(pss_cons (ps_fld (pv 0) pe_dnewT rfl)
   (pss_cons (ps_fld (pv 0) (pe_lst pa_nil) rfl)
   (pss_one (ps_fld (pv 0) (pe_lst pa_nil) rfl)))),?_⟩
  try dsimp only [nox_K]
  intro dn hdn
  have n1:p≠dn:=ne_of_none hp hdn
  refine ⟨_,rfl,p,_,dx,[],rfl,(by rw [upd_ne n1]; exact hp),T.cl_Walk,T.na_Walk_done,(by show 0 < 1000; decide),by decide,fun st hst=>?_⟩
  have n2:p≠st:=ne_of_none upd_same hst
  refine ⟨_,rfl,p,_,dx,_,rfl,(by rw [upd_ne n2]; exact upd_same),T.cl_Walk,T.na_Walk_stops,(by show 1 < 1000; decide),by decide,fun fl hfl=>?_⟩
  have n3:p≠fl:=ne_of_none upd_same hfl
  refine ⟨_,rfl,p,_,dx,_,rfl,(by rw [upd_ne n3]; exact upd_same),T.cl_Walk,T.na_Walk_filled,(by show 2 < 1000; decide),?_⟩
  obtain ⟨s1,s2⟩:=upd_none hst
  obtain ⟨s3,s4⟩:=upd_none s2
  obtain ⟨f1,f2⟩:=upd_none hfl
  obtain ⟨f3,f4⟩:=upd_none f2
  obtain ⟨f5,f6⟩:=upd_none f4
  obtain ⟨f7,f8⟩:=upd_none f6
  refine k dn st fl _ hdn s4 f8 s3.symm f7.symm f3.symm (fun b u e hb=>?_) ?_ ?_ ?_ ?_
  ·rw [upd_ne hb,upd_ne (ne_of_none e f8),upd_ne hb,upd_ne (ne_of_none e s4),upd_ne hb,upd_ne (ne_of_none e hdn)]
   exact e
  ·rw [upd_same]
   have e:putF "filled" (V.ref fl) (putF "stops" (V.ref st) (putF "done" (V.ref dn) []))=walkF dn st fl:=by
    simp [putF,walkF,show ¬ (("done":Str)="stops") by decide +kernel,show ¬ (("done":Str)="filled") by decide +kernel,show ¬ (("stops":Str)="filled") by decide +kernel]
   exact congrArg (fun l=>some (HO.ins (cA K "Walk") dx l)) e
  ·rw [upd_ne n1.symm,upd_ne f7.symm,upd_ne n1.symm,upd_ne s3.symm,upd_ne n1.symm,upd_same]
  ·rw [upd_ne n2.symm,upd_ne f3.symm,upd_ne n2.symm,upd_same]
  ·rw [upd_ne n3.symm,upd_same]
theorem sc_numberread:FnScope ["program","sources","reader","source"] ["program","sources","reader"] (defScope s_numberread):=⟨rfl,rfl,rfl,by decide +kernel,rfl,by decide +kernel,by decide +kernel⟩
theorem ok_numberread {f:Addr} {fd:FuncData} (F:Fun K "number_read" "number_read" s_numberread f fd) (T:Txt K mg) (h_numberat:Has P w K mg base 4 "number_at" ["program","source"] (sp_numberat K)) (h_writes:Has P w K mg base 4 "writes" ["program","point"] (sp_writes K)):FnOk P w K mg base CX0 5 f fd ["program","sources","reader"] (sp_numberread K):=by
 refine F.ok (k:=4) sc_numberread (fun vs H Q E h=>?_) (fun cdv A outer s H vs Q E hr h=>?_)
 ·obtain ⟨p,d,t,hs,S,C,src,z,o,rfl,_⟩:=h
  rfl
 ·obtain ⟨p,d,t,hs,S,C,src,z,o,rfl,hP,G,hD,ht,hz,hw,q⟩:=h
  have hu:=hu_of hr
  refine ⟨_,(pss_cons (ps_if (pt_cmp (pc_dnotin hu (pv 2) (pv 1)))
   (pss_one ps_never)
   pss_nil)
   (pss_cons (ps_set (i:=3) sc_numberread.nd rfl (Or.inl rfl) (pe_dget hu (pv 1) (pv 2) (fun _ _=>rfl)))
   (pss_cons (ps_if (PW.pt (pw_and (pt_cmpR op_notN (pv 3) pe_non (nomark _)) (pw_and1 (pt_not (pt_val (pe_fn h_writes (hr.mono (by decide)) (pa_cons (pv 0) (pa_cons (pv 3) pa_nil))))))))
   (pss_one ps_never)
   pss_nil)
   (pss_one (ps_ret (pe_fn h_numberat (hr.mono (by decide)) (pa_cons (pv 0) (pa_cons (pv 3) pa_nil)))))))),?_⟩
  try dsimp only [nox_K]
  obtain ⟨kvs,hd,hv⟩:=hD
  have hv':=hv z
  rw [hz] at hv'
  obtain ⟨v,e1,e2⟩:=hv'
  have g:DGet H d (.ref t) (some v):=by rw [← e1]; exact DGet.t hd ht
  refine ⟨_,rfl,_,rfl,d,_,rfl,g,_,rfl,iteF ?_⟩
  refine ⟨_,rfl,_,rfl,d,_,rfl,g,?_⟩
  cases o with
  | none =>
   cases (show v=.non from e2)
   exact ⟨_,rfl,rfl,_,rfl,ifNf rfl (iteF ⟨_,rfl,_,rfl,p,hs,S,C,.non,none,rfl,hP,G,rfl,(fun z e=>nomatch e),fun H' s=>q H' s⟩)⟩
  | some y =>
   obtain ⟨a,rfl,ha⟩:=e2
   refine ⟨_,rfl,rfl,_,rfl,ifNt (fun z=>nomatch z) ⟨_,rfl,_,rfl,p,a,hs,S,C,y,rfl,hP,G,ha,fun H1 s1=>?_⟩⟩
   rw [hw y rfl]
   exact ⟨_,rfl,iteF ⟨_,rfl,_,rfl,p,hs,S,C,_,some y,rfl,hP.same s1,G,⟨a,rfl,s1.seqT ha⟩,hw,fun H' s=>q H' (s1.trans s)⟩⟩
theorem sc_writersto:FnScope ["done","place"] ["done","place"] (defScope s_writersto):=⟨rfl,rfl,rfl,by decide +kernel,rfl,by decide +kernel,by decide +kernel⟩
theorem ok_writersto {f:Addr} {fd:FuncData} (F:Fun K "writers_to" "writers_to" s_writersto f fd) (T:Txt K mg) (h_iswrite:Has P w K mg base 1 "is_write" ["deed"] (sp_iswrite K)) (h_placeof:Has P w K mg base 2 "place_of" ["deed"] (sp_placeof K)):FnOk P w K mg base CX0 3 f fd ["done","place"] (sp_writersto K):=by
 refine F.ok (k:=2) sc_writersto (fun vs H Q E h=>?_) (fun cdv A outer s H vs Q E hr h=>?_)
 ·obtain ⟨d,ds,pl,rfl,_⟩:=h
  rfl
 ·obtain ⟨d,ds,pl,rfl,hd,hn,nd,hI,q⟩:=h
  have hu:=hu_of hr
  refine ⟨_,(pss_one (ps_ret (pe_thaw (pe_comp (Nc:=["point","place","done"]) (nt:=1) (js:=[1,0]) rfl ⟨rfl,rfl,rfl,rfl,(.cons rfl (.cons rfl .nil)),rfl,⟨["point"],["place","done"],rfl,rfl,(.cons rfl rfl rfl (.cons rfl rfl rfl .nil))⟩⟩ (pi_keys (pv 0)) (fun C s3 H3 fp pins=>⟨(pg_name (i:=0) (show (["point","place","done"]:List Str).Nodup by decide +kernel) rfl (Or.inl rfl)),(pts_one (PW.pt (pw_and (pt_val (pe_fn h_iswrite (hr.mono (by decide)) (pa_cons (pe_dget hu (pv 2) (pv 0) (fun _ _=>rfl)) pa_nil))) (pw_and1 (pt_cmpR op_eq (pe_fn h_placeof (hr.mono (by decide)) (pa_cons (pe_dget hu (pv 2) (pv 0) (fun _ _=>rfl)) pa_nil)) (pv 1) (nomark _)))))),(pv 0)⟩))))),?_⟩
  try dsimp only [nox_K]
  have hlen:(doneK ds).length=ds.length:=List.length_map ..
  refine ⟨d,doneK ds,hd,_,rfl,d,doneK ds,rfl,hd,fun ob D hD=>?_⟩
  obtain ⟨nDd,hD0⟩:=upd_none hD
  have fz:∀ {b:Addr} {u:HO} {H':Hp},Same (upd H d (.frz ob (.dT (doneK ds)))) H'→H b=some u→b≠d→H' b=some u:=fun s e hb=>s _ _ (by rw [upd_ne hb]; exact e)
  have dd:∀ q∈ds,SqT K (upd H d (.frz ob (.dT (doneK ds)))) q.2.a q.2.d.items:=fun q hq=>SqT.froz hd (hI q hq).t
  have fin:∀ {H':Hp},Same (upd H d (.frz ob (.dT (doneK ds)))) H'→Same H (upd H' d (.dT (doneK ds))):=fun s b u e=>by
   by_cases c:b=d
   ·subst c; rw [upd_same,← hd]; exact e
   ·rw [upd_ne c]; exact fz s e c
  refine comp_keys (BI2 H d ob ds D pl) ?_ ?_ ?_ ?_ ?_
  ·exact ⟨[],none,Same.new hD,upd_same,rfl,PtsAt.nil,Nat.le_refl _,rfl⟩
  ·rintro i σ ys H' hi ⟨ps,v,s,hD',rfl,hp,hl,rfl⟩
   exact ⟨s _ _ upd_same,hD',by rw [List.length_map]; exact hl⟩
  ·rw [hlen]; exact Nat.le_of_lt (small1000 (by lia))
  ·rintro i a k x σ ys H' hk ha ⟨ps,v,s,hD',rfl,hp,hl,rfl⟩
   obtain ⟨r,hr2,er⟩:∃ r,ds[i]?=some r∧(pk r.1,V.ref r.2.a)=(k,x):=by
    unfold doneK at hk
    rw [List.getElem?_map] at hk
    cases e:ds[i]? with
    | none=>rw [e] at hk; cases hk
    | some r=>rw [e] at hk; exact ⟨r,rfl,Option.some.inj hk⟩
   cases er
   have hm:=List.mem_of_getElem? hr2
   have g:∀ {H2:Hp},Same H' H2→DGet H2 d (.ref a) (some (.ref r.2.a)):=fun s2=>by
    rw [← val_done nd hm]
    exact .inr ⟨_,_,_,.inr ⟨ob,s2 _ _ (s _ _ upd_same)⟩,rfl,s2 _ _ ha,rfl⟩
   have ht:=s.seqT (dd r hm)
   have e:writersTo (ds.take (i + 1)) pl=writersTo (ds.take i) pl ++ (if isTo pl r=true then [r.1] else []):=by
    unfold writersTo
    rw [List.take_add_one,hr2,List.filter_append,List.map_append]
    congr 1
    by_cases c:isTo pl r=true
    ·rw [if_pos c]; simp [c]
    ·rw [if_neg c]; simp [c]
   have hi:i < ds.length:=(List.getElem?_eq_some_iff.mp hr2).1
   refine ⟨_,rfl,_,rfl,d,_,rfl,g (Same.refl _),r.2.a,r.2.d,rfl,ht,fun H2 s2=>⟨_,rfl,ifB (fun c=>?_) (fun c=>?_)⟩⟩
   ·obtain ⟨z,_,z2⟩:=place_spot (show pt r.2.d=true by unfold pt; rw [c]; rfl)
    refine ⟨_,rfl,_,rfl,d,_,rfl,g s2,r.2.a,r.2.d,rfl,s2.seqT ht,fun H3 s3=>?_⟩
    rw [z2]
    have s4:=s2.trans s3
    refine ⟨_,rfl,rfl,_,rfl,ifD (fun c2=>⟨_,rfl,s4 _ _ hD',ps ++ [(a,pk r.1)],_,?_,upd_same,by rw [List.map_append]; rfl,?_,by rw [List.length_append]; exact Nat.succ_le_succ hl,rfl⟩) (fun c2=>⟨ps,_,s.trans s4,s4 _ _ hD',rfl,?_,Nat.le_succ_of_le hl,rfl⟩)⟩
    ·exact Same.at hD (s.trans s4)
    ·have ci:isTo pl r=true:=by unfold isTo; rw [c,z2,c2]; simp
     rw [e,if_pos ci]
     have p2:=(hp.same s4).snoc (s4 _ _ ha)
     refine ⟨p2.eq,fun q hq=>?_⟩
     have:=p2.at_ q hq
     rw [upd_ne (ne_of this (s4 _ _ hD') (by intro z; cases z))]
     exact this
    ·have ci:¬ isTo pl r=true:=by
      unfold isTo; rw [c,z2]
      simpa using c2
     rw [e,if_neg ci,List.append_nil]
     exact hp.same s4
   ·have ci:¬ isTo pl r=true:=by unfold isTo; rw [c]; exact Bool.false_ne_true
    refine ⟨ps,_,s.trans s2,s2 _ _ hD',rfl,?_,Nat.le_succ_of_le hl,rfl⟩
    rw [e,if_neg ci,List.append_nil]
    exact hp.same s2
  ·rintro σ ys H' ⟨ps,v,s,hD',rfl,hp,hl,rfl⟩
   rw [hlen,List.take_of_length_le (Nat.le_refl _)] at hp
   refine ⟨ob,s _ _ upd_same,q D ps _ (fin s) hD0 (by rw [upd_ne nDd]; exact hD') ⟨hp.eq,fun q hq=>?_⟩⟩
   have:=hp.at_ q hq
   rw [upd_ne (ne_of this (s _ _ upd_same) (by intro z; cases z))]
   exact this
end
end Own
set_option Elab.async false
set_option linter.all false
set_option maxRecDepth 100000
set_option maxHeartbeats 4100000
namespace Own
open PySem L2
structure DoneAt (K:PySem.W.Frag) (H:Hp) (d:Addr) (ds:Done):Prop where
 d:H d=some (.dT (doneK ds))
 n:ds.length≤240
 nd:(ds.map (·.1)).Nodup
 is_:∀ q∈ds,IsDeed K H q.2
 pts:∀ q∈ds,pt q.2.d=true
theorem DoneAt.same {K:PySem.W.Frag} {H H':Hp} {d:Addr} {ds:Done} (s:Same H H') (h:DoneAt K H d ds):DoneAt K H' d ds:=⟨s _ _ h.d,h.n,h.nd,fun q hq=>(h.is_ q hq).same s,h.pts⟩
noncomputable def readersOf (ds:Done):List Z2:=(ds.filter fun q=>q.2.d.reads).map (·.1)
structure FR where
 a:Addr
 t:Addr
 z:Z2
 v:V
 o:Option Z2
structure IsFroms (K:PySem.W.Frag) (H:Hp) (l:Addr) (fs:List FR):Prop where
 l:SqL K H l (fs.map fun f=>V.ref f.a)
 p:∀ f∈fs,SqT K H f.a [.ref f.t,f.v]
 t:∀ f∈fs,H f.t=some (.tup ((pk f.z).map kV))
 v:∀ f∈fs,SrcV K H f.v f.o
theorem IsFroms.same {K:PySem.W.Frag} {H H':Hp} {l:Addr} {fs:List FR} (s:Same H H') (h:IsFroms K H l fs):IsFroms K H' l fs:=⟨s.seq h.l,fun f hf=>s.seqT (h.p f hf),fun f hf=>s _ _ (h.t f hf),fun f hf=>(h.v f hf).same s⟩
structure LN where
 a:Addr
 l:Addr
 pl:Str
 ps:List TK
 zs:List Z2
structure IsLines (K:PySem.W.Frag) (H:Hp) (m:Addr) (ls:List LN):Prop where
 l:SqL K H m (ls.map fun x=>V.ref x.a)
 p:∀ x∈ls,SqT K H x.a [.str x.pl,.ref x.l]
 q:∀ x∈ls,TKs K H x.l x.ps∧x.ps.map (·.2)=x.zs.map pk∧x.ps.length < 64
theorem tks_same {K:PySem.W.Frag} {H H':Hp} {l:Addr} {ps:List TK} (s:Same H H') (h:TKs K H l ps):TKs K H' l ps:=⟨s.seq h.l,fun q hq=>s.seqT (h.ts q hq)⟩
theorem IsLines.same {K:PySem.W.Frag} {H H':Hp} {l:Addr} {ls:List LN} (s:Same H H') (h:IsLines K H l ls):IsLines K H' l ls:=⟨s.seq h.l,fun x hx=>s.seqT (h.p x hx),fun x hx=>⟨tks_same s (h.q x hx).1,(h.q x hx).2⟩⟩
theorem PtsAt.tks {K:PySem.W.Frag} {H:Hp} {l:Addr} {ps:List TK} {zs:List Z2} (h:PtsAt H ps zs) (hl:H l=some (.lst (ps.map fun q=>V.ref q.1))):TKs K H l ps:=⟨SqL.of hl,fun q hq=>SqT.of (h.at_ q hq)⟩
theorem any_pts {ps:List TK} {zs:List Z2} {w:Z2} (e:ps.map (·.2)=zs.map pk) (hw:w∈zs):(ps.any fun q=>decide (q.2=pk w))=true:=by
 have:pk w∈ps.map (·.2):=by rw [e]; exact List.mem_map.mpr ⟨w,hw,rfl⟩
 obtain ⟨q,hq,e2⟩:=List.mem_map.mp this
 exact List.any_eq_true.mpr ⟨q,hq,decide_eq_true e2⟩
noncomputable def zLt (a b:Z2):Prop:=a.1 < b.1∨a.1=b.1∧a.2 < b.2
theorem lex_pk (a b:Z2):L2.lexLt (pk a) (pk b)=true ↔ zLt a b:=by
 unfold pk zLt
 simp only [L2.lexLt,kLt,Sum.inl.injEq]
 by_cases c:a.1=b.1
 ·rw [if_pos c]
  by_cases c2:a.2=b.2
  ·rw [if_pos c2]; simp [c,c2]
  ·rw [if_neg c2]; simp [c]
 ·rw [if_neg c]
  simp [c]
theorem sorted_pts {ps ps':List TK} {zs ws:List Z2} (e:ps.map (·.2)=zs.map pk) (hp:ps'.Perm ps) (hr:RisesK ps') (hz:zs.Perm ws) (hw:ws.Pairwise zLt):ps'.map (·.2)=ws.map pk:=by
 have p1:(ps'.map (·.2)).Perm (ws.map pk):=((hp.map _).trans (List.Perm.of_eq e)).trans (hz.map _)
 have r1:(ps'.map (·.2)).Pairwise fun a b=>lexO.le a b:=by
  rw [List.pairwise_map]
  exact hr
 have r2:(ws.map pk).Pairwise fun a b=>lexO.le a b:=by
  rw [List.pairwise_map]
  refine hw.imp fun {a b} h=>?_
  exact lexO.le_of_lt ((lex_pk a b).mpr h)
 refine List.Perm.eq_of_pairwise (le:=fun a b=>lexO.le a b) (fun a b _ _ h1 h2=>?_) r1 r2 p1
 exact lexO.tri a b h2 h1
theorem DT.strs {K:PySem.W.Frag} {H:Hp} {a b:Addr} {xs:List Str} (ha:SqL K H a (xs.map V.str)) (hb:SqL K H b (xs.map V.str)):DT K H a b true:=by
 have h:=DT.lst (fun i=>true) ha hb rfl fun i x y hx hy=>by
  rw [hx] at hy
  cases hy
  obtain ⟨z,_,rfl⟩:=refs_get hx
  have:=DC.flat (K:=K) (H:=H) (n:=8) (x:=V.str z) (y:=V.str z) rfl rfl
  rw [show eqV (V.str z) (V.str z)=true from beq_self_eq_true z] at this
  exact this
 rw [show (List.range (xs.map V.str).length).all (fun _=>true)=true by simp] at h
 exact h
theorem find_reader {ds:Done} {z:Z2} (h:z∈readersOf ds):∃ x,(z,x)∈ds:=by
 obtain ⟨q,hq,rfl⟩:=List.mem_map.mp h
 exact ⟨q.2,(List.mem_filter.mp hq).1⟩
inductive Sp_sourcefits (K:PySem.W.Frag) (vs:List V) (H:Hp) (Q:VK) (E_:XK):Prop
 | mk (d:Addr) (t:Addr) (ds:Done) (z:Z2) (x:DD) (sv:V) (o:Option Z2) (h0_:vs=[.ref d,.ref t,sv]) (h1_:DoneAt K H d ds) (h2_:H t=some (.tup ((pk z).map kV))) (h3_:(z,x)∈ds) (h4_:SrcV K H sv o) (h5_:(∀ w,o=some w→w≠z∧∃ pl,x.d.place=.str pl∧w∈writersTo ds pl)) (h6_:∀ H',Same H H'→Q (.bl true) H'):Sp_sourcefits K vs H Q E_
noncomputable def sp_sourcefits (K:PySem.W.Frag):Sp:=Sp_sourcefits K
inductive Sp_fromsfit (K:PySem.W.Frag) (vs:List V) (H:Hp) (Q:VK) (E_:XK):Prop
 | mk (d:Addr) (l:Addr) (ds:Done) (fs:List FR) (h0_:vs=[.ref d,.ref l]) (h1_:DoneAt K H d ds) (h2_:IsFroms K H l fs) (h3_:fs.length≤240) (h4_:fs.map (·.z)=readersOf ds) (h5_:(∀ f∈fs,∀ x,(f.z,x)∈ds→∀ w,f.o=some w→w≠f.z∧∃ pl,x.d.place=.str pl∧w∈writersTo ds pl)) (h6_:∀ H',Same H H'→Q (.bl true) H'):Sp_fromsfit K vs H Q E_
noncomputable def sp_fromsfit (K:PySem.W.Frag):Sp:=Sp_fromsfit K
inductive Sp_linesfit (K:PySem.W.Frag) (vs:List V) (H:Hp) (Q:VK) (E_:XK):Prop
 | mk (p:Addr) (d:Addr) (m:Addr) (hs:Hands) (S:List Str) (C:List Str) (ds:Done) (ls:List LN) (h0_:vs=[.ref p,.ref d,.ref m]) (h1_:IsProg K H p hs) (h2_:Good S C hs) (h3_:DoneAt K H d ds) (h4_:IsLines K H m ls) (h5_:ls.length≤240) (h6_:(∀ us,RisingT us→(∀ z,z∈us ↔ z∈spotsTo hs hs.length)→ls.map (·.pl)=us)) (h7_:(∀ x∈ls,x.zs.Perm (writersTo ds x.pl)∧(writersTo ds x.pl).Pairwise zLt)) (h8_:∀ H',Same H H'→Q (.bl true) H'):Sp_linesfit K vs H Q E_
noncomputable def sp_linesfit (K:PySem.W.Frag):Sp:=Sp_linesfit K
inductive CI1 (H:Hp) (D:Addr) (fs:List FR) (i:Nat) (σ:St) (ys:List V) (H':Hp):Prop
 | mk (v1:Option V) (v2:Option V) (h0_:Same H H') (h1_:H' D=some (.lst ys)) (h2_:ys=(fs.take i).map (fun f=>V.ref f.t)) (h3_:σ=[v1,v2]):CI1 H D fs i σ ys H'
inductive CI2 (H1:Hp) (d:Addr) (ob:Obj) (ds:Done) (D2:Addr) (i:Nat) (σ:St) (ys:List V) (H':Hp):Prop
 | mk (ps:List TK) (v:Option V) (h0_:Same (upd H1 d (.frz ob (.dT (doneK ds)))) H') (h1_:H' D2=some (.lst ys)) (h2_:ys=(ps.map fun q=>V.ref q.1)) (h3_:PtsAt H' ps (readersOf (ds.take i))) (h4_:ps.length≤i) (h5_:σ=[v,some (.ref d)]):CI2 H1 d ob ds D2 i σ ys H'
inductive CI3 (H2:Hp) (d:Addr) (ds:Done) (D3:Addr) (i:Nat) (σ:St) (ys:List V) (H':Hp):Prop
 | mk (v1:Option V) (v2:Option V) (h0_:Same (upd H2 d (.dT (doneK ds))) H') (h1_:H' D3=some (.lst ys)) (h2_:ys=(List.replicate i true).map V.bl) (h3_:σ=[v1,v2,some (.ref d)]):CI3 H2 d ds D3 i σ ys H'
inductive CI4 (H:Hp) (D:Addr) (ls:List LN) (i:Nat) (σ:St) (ys:List V) (H':Hp):Prop
 | mk (v1:Option V) (v2:Option V) (h0_:Same H H') (h1_:H' D=some (.lst ys)) (h2_:ys=((ls.take i).map (·.pl)).map V.str) (h3_:σ=[v1,v2]):CI4 H D ls i σ ys H'
inductive CI5 (H2:Hp) (D3:Addr) (d:Addr) (i:Nat) (σ:St) (ys:List V) (H':Hp):Prop
 | mk (v1:Option V) (v2:Option V) (h0_:Same H2 H') (h1_:H' D3=some (.lst ys)) (h2_:ys=(List.replicate i true).map V.bl) (h3_:σ=[v1,v2,some (.ref d)]):CI5 H2 D3 d i σ ys H'
section
variable {P:Program} {w:World} {K:PySem.W.Frag} {mg:Str→Option Value} {base:Heap}
theorem sc_sourcefits:FnScope ["done","reader","source"] ["done","reader","source"] (defScope s_sourcefits):=⟨rfl,rfl,rfl,by decide +kernel,rfl,by decide +kernel,by decide +kernel⟩
theorem ok_sourcefits {f:Addr} {fd:FuncData} (F:Fun K "source_fits" "source_fits" s_sourcefits f fd) (T:Txt K mg) (h_writersto:Has P w K mg base 3 "writers_to" ["done","place"] (sp_writersto K)) (h_placeof:Has P w K mg base 2 "place_of" ["deed"] (sp_placeof K)):FnOk P w K mg base CX0 4 f fd ["done","reader","source"] (sp_sourcefits K):=by
 refine F.ok (k:=3) sc_sourcefits (fun vs H Q E h=>?_) (fun cdv A outer s H vs Q E hr h=>?_)
 ·obtain ⟨d,t,ds,z,x,sv,o,rfl,_⟩:=h
  rfl
 ·obtain ⟨d,t,ds,z,x,sv,o,rfl,hD,ht,hx,hv,hw,q⟩:=h
  have hu:=hu_of hr
  refine ⟨_,(pss_cons (ps_if (pt_cmpR op_isN (pv 2) pe_non (nomark _))
   (pss_one (ps_ret pe_bl))
   pss_nil)
   (pss_one (ps_ret (pe_and (pe_cmpR (op_neC (hu_deep hr)) (pv 2) (pv 1) (nomark _)) (pe_one (pe_cmpR (op_inT (hu_deep hr)) (pv 2) (pe_fn h_writersto (hr.mono (by decide)) (pa_cons (pv 0) (pa_cons (pe_fn h_placeof (hr.mono (by decide)) (pa_cons (pe_dget hu (pv 0) (pv 1) (fun _ _=>rfl)) pa_nil)) pa_nil))) (by with_unfolding_all rfl))))))),?_⟩
  try dsimp only [nox_K]
  cases o with
  | none =>
   cases (show sv=.non from hv)
   exact ⟨_,rfl,rfl,_,rfl,ifDt rfl (q _ (Same.refl _))⟩
  | some y =>
   obtain ⟨a,rfl,ha⟩:=hv
   obtain ⟨ne,pl,hpl,hmem⟩:=hw y rfl
   refine ⟨_,rfl,rfl,_,rfl,ifDf (fun z=>nomatch z) ?_⟩
   have hk:decide (pk y=pk z)=false:=decide_eq_false fun e=>ne (pk_inj e)
   refine ⟨_,rfl,_,rfl,a,t,_,rfl,rfl,DT.keys (xs:=pk y) (ys:=pk z) ha (SqT.of ht),?_⟩
   rw [hk]
   refine ⟨_,rfl,iteT ?_⟩
   have g:DGet H d (.ref t) (some (.ref x.a)):=by
    rw [← val_done hD.nd hx]
    exact DGet.t hD.d ht
   refine ⟨_,rfl,_,rfl,_,rfl,_,rfl,d,_,rfl,g,x.a,x.d,rfl,(hD.is_ _ hx).t,fun H1 s1=>?_⟩
   rw [hpl]
   have hD1:=hD.same s1
   refine ⟨d,ds,pl,rfl,hD1.d,hD1.n,hD1.nd,hD1.is_,fun l ps H2 s2 nl hl hp=>?_⟩
   refine ⟨a,l,pk y,ps,rfl,rfl,(s1.trans s2).seqT ha,hp.tks hl,?_⟩
   rw [any_pts hp.eq hmem]
   exact q H2 (s1.trans s2)
theorem sc_fromsfit:FnScope ["done","froms"] ["done","froms"] (defScope s_fromsfit):=⟨rfl,rfl,rfl,by decide +kernel,rfl,by decide +kernel,by decide +kernel⟩
theorem ok_fromsfit {f:Addr} {fd:FuncData} (F:Fun K "froms_fit" "froms_fit" s_fromsfit f fd) (T:Txt K mg) (h_sourcefits:Has P w K mg base 4 "source_fits" ["done","reader","source"] (sp_sourcefits K)) (h_isread:Has P w K mg base 1 "is_read" ["deed"] (sp_isread K)):FnOk P w K mg base CX0 5 f fd ["done","froms"] (sp_fromsfit K):=by
 refine F.ok (k:=4) sc_fromsfit (fun vs H Q E h=>?_) (fun cdv A outer s H vs Q E hr h=>?_)
 ·obtain ⟨d,l,ds,fs,rfl,_⟩:=h
  rfl
 ·obtain ⟨d,l,ds,fs,rfl,hD,hF,hn,he,hw,q⟩:=h
  have hu:=hu_of hr
  refine ⟨_,(pss_cons (ps_if (pt_cmpR (op_neC (hu_deep hr)) (pe_comp (Nc:=["reader","source"]) (nt:=2) (js:=[]) rfl ⟨rfl,rfl,rfl,rfl,.nil,rfl,⟨["reader","source"],[],rfl,rfl,.nil⟩⟩ (pi_list (pv 1)) (fun C s3 H3 fp pins=>⟨(pg_tupK (K:=K) 2 rfl rfl (pgs_cons (pg_name (i:=0) (show (["reader","source"]:List Str).Nodup by decide +kernel) rfl (Or.inl rfl) (hf:=Or.inr rfl)) (pgs_cons (pg_name (i:=1) (show (["reader","source"]:List Str).Nodup by decide +kernel) rfl (Or.inl rfl) (hf:=Or.inr rfl)) pgs_nil)) rfl rfl),pts_nil,(pv 0)⟩)) (pe_thaw (pe_comp (Nc:=["point","done"]) (nt:=1) (js:=[0]) rfl ⟨rfl,rfl,rfl,rfl,(.cons rfl .nil),rfl,⟨["point"],["done"],rfl,rfl,(.cons rfl rfl rfl .nil)⟩⟩ (pi_keys (pv 0)) (fun C s3 H3 fp pins=>⟨(pg_name (i:=0) (show (["point","done"]:List Str).Nodup by decide +kernel) rfl (Or.inl rfl)),(pts_one (pt_val (pe_fn h_isread (hr.mono (by decide)) (pa_cons (pe_dget hu (pv 1) (pv 0) (fun _ _=>rfl)) pa_nil)))),(pv 0)⟩))) (nomark _))
   (pss_one (ps_ret pe_bl))
   pss_nil)
   (pss_one (ps_ret (pe_callB (call_all_bools rfl) rfl T.n_all bt_all (pa_cons (pe_comp (Nc:=["reader","source","done"]) (nt:=2) (js:=[0]) rfl ⟨rfl,rfl,rfl,rfl,(.cons rfl .nil),rfl,⟨["reader","source"],["done"],rfl,rfl,(.cons rfl rfl rfl .nil)⟩⟩ (pi_list (pv 1)) (fun C s3 H3 fp pins=>⟨(pg_tupK (K:=K) 2 rfl rfl (pgs_cons (pg_name (i:=0) (show (["reader","source","done"]:List Str).Nodup by decide +kernel) rfl (Or.inl rfl) (hf:=Or.inr rfl)) (pgs_cons (pg_name (i:=1) (show (["reader","source","done"]:List Str).Nodup by decide +kernel) rfl (Or.inl rfl) (hf:=Or.inr rfl)) pgs_nil)) rfl rfl),pts_nil,(pe_fn h_sourcefits (hr.mono (by decide)) (pa_cons (pv 2) (pa_cons (pv 0) (pa_cons (pv 1) pa_nil))))⟩)) pa_nil))))),?_⟩
  try dsimp only [nox_K]
  refine ⟨_,rfl,l,rfl,⟨_,hF.l⟩,fun D hDn=>?_⟩
  refine comp_list (xs:=fs.map fun f=>V.ref f.a) (CI1 H D fs) ?_ ?_ ?_ ?_ ?_
  ·exact ⟨none,none,Same.new hDn,upd_same,rfl,rfl⟩
  ·rintro i σ ys H' hi ⟨v1,v2,s,hD',rfl,rfl⟩
   exact ⟨s.seq hF.l,hD',by rw [List.length_map,List.length_take]; lia⟩
  ·rw [List.length_map]; exact Nat.le_of_lt (small1000 (by lia))
  ·rintro i y σ ys H' hy ⟨v1,v2,s,hD',rfl,rfl⟩
   obtain ⟨f,hf,rfl⟩:=refs_get hy
   refine ⟨f.a,_,rfl,s.seqT (hF.p f (List.mem_of_getElem? hf)),rfl,_,_,rfl,_,_,rfl,rfl,?_⟩
   refine ⟨_,rfl,hD',_,_,Same.at hDn s,upd_same,?_,rfl⟩
   rw [List.take_add_one,hf,List.map_append]
   rfl
  rintro σ ys H1 ⟨v1,v2,s1,hD1,rfl,rfl⟩
  rw [List.length_map,List.take_of_length_le (Nat.le_refl _)] at hD1
  have hDo:=hD.same s1
  have hF1:=hF.same s1
  have hlen:(doneK ds).length=ds.length:=List.length_map ..
  refine ⟨d,doneK ds,hDo.d,_,rfl,d,doneK ds,rfl,hDo.d,fun ob D2 hD2=>?_⟩
  obtain ⟨nDd,hD0⟩:=upd_none hD2
  have dd:∀ q∈ds,SqT K (upd H1 d (.frz ob (.dT (doneK ds)))) q.2.a q.2.d.items:=fun q hq=>SqT.froz hDo.d (hDo.is_ q hq).t
  have fin:∀ {H':Hp},Same (upd H1 d (.frz ob (.dT (doneK ds)))) H'→Same H1 (upd H' d (.dT (doneK ds))):=fun s b u e=>by
   by_cases c:b=d
   ·subst c; rw [upd_same,← hDo.d]; exact e
   ·rw [upd_ne c]; exact s _ _ (by rw [upd_ne c]; exact e)
  refine comp_keys (CI2 H1 d ob ds D2) ?_ ?_ ?_ ?_ ?_
  ·exact ⟨[],none,Same.new hD2,upd_same,rfl,PtsAt.nil,Nat.le_refl _,rfl⟩
  ·rintro i σ ys H' hi ⟨ps,v,s,hD',rfl,hp,hl,rfl⟩
   exact ⟨s _ _ upd_same,hD',by rw [List.length_map]; exact hl⟩
  ·rw [hlen]
   have:=hD.n
   exact Nat.le_of_lt (small1000 (by lia))
  ·rintro i a k x σ ys H' hk ha ⟨ps,v,s,hD',rfl,hp,hl,rfl⟩
   obtain ⟨r,hr2,er⟩:∃ r,ds[i]?=some r∧(pk r.1,V.ref r.2.a)=(k,x):=by
    unfold doneK at hk
    rw [List.getElem?_map] at hk
    cases e:ds[i]? with
    | none=>rw [e] at hk; cases hk
    | some r=>rw [e] at hk; exact ⟨r,rfl,Option.some.inj hk⟩
   cases er
   have hm:=List.mem_of_getElem? hr2
   have g:DGet H' d (.ref a) (some (.ref r.2.a)):=by
    rw [← val_done hD.nd hm]
    exact .inr ⟨_,_,_,.inr ⟨ob,s _ _ upd_same⟩,rfl,ha,rfl⟩
   have e:readersOf (ds.take (i + 1))=readersOf (ds.take i) ++ (if r.2.d.reads=true then [r.1] else []):=by
    unfold readersOf
    rw [List.take_add_one,hr2,List.filter_append,List.map_append]
    congr 1
    by_cases c:r.2.d.reads=true
    ·rw [if_pos c]; simp [c]
    ·rw [if_neg c]; simp [c]
   refine ⟨_,rfl,_,rfl,d,_,rfl,g,r.2.a,r.2.d,rfl,s.seqT (dd r hm),fun H2 s2=>⟨_,rfl,ifB (fun c=>?_) (fun c=>?_)⟩⟩
   ·refine ⟨_,rfl,s2 _ _ hD',ps ++ [(a,pk r.1)],_,Same.at hD2 (s.trans s2),upd_same,by rw [List.map_append]; rfl,?_,by rw [List.length_append]; exact Nat.succ_le_succ hl,rfl⟩
    rw [e,if_pos c]
    have p2:=(hp.same s2).snoc (s2 _ _ ha)
    refine ⟨p2.eq,fun q hq=>?_⟩
    have:=p2.at_ q hq
    rw [upd_ne (ne_of this (s2 _ _ hD') (by intro z; cases z))]
    exact this
   ·refine ⟨ps,_,s.trans s2,s2 _ _ hD',rfl,?_,Nat.le_succ_of_le hl,rfl⟩
    rw [e,if_neg (by rw [c]; exact Bool.false_ne_true),List.append_nil]
    exact hp.same s2
  rintro σ ys H2 ⟨ps,v,s2,hD2',rfl,hp,hl,rfl⟩
  rw [hlen,List.take_of_length_le (Nat.le_refl _)] at hp
  refine ⟨ob,s2 _ _ upd_same,?_⟩
  have s12:Same H1 (upd H2 d (.dT (doneK ds))):=fin s2
  have hp2:PtsAt (upd H2 d (.dT (doneK ds))) ps (readersOf ds):=⟨hp.eq,fun q hq=>by
   have:=hp.at_ q hq
   rw [upd_ne (ne_of this (s2 _ _ upd_same) (by intro z; cases z))]
   exact this⟩
  have t1:TKs K (upd H2 d (.dT (doneK ds))) D (fs.map fun f=>(f.t,pk f.z)):=by
   refine ⟨?_,fun q hq=>?_⟩
   ·rw [List.map_map]; exact SqL.of (s12 _ _ hD1)
   ·obtain ⟨f,hf,rfl⟩:=List.mem_map.mp hq
    exact SqT.of (s12 _ _ (hF1.t f hf))
  have t2:TKs K (upd H2 d (.dT (doneK ds))) D2 ps:=hp2.tks (by rw [upd_ne nDd]; exact hD2')
  refine ⟨D,D2,_,rfl,rfl,DT.lists t1 t2,?_⟩
  have e:decide ((fs.map fun f=>(f.t,pk f.z)).map (fun q:TK=>q.2)=ps.map (fun q:TK=>q.2))=true:=by
   refine decide_eq_true ?_
   rw [hp2.eq,← he,List.map_map,List.map_map]
   rfl
  rw [e]
  refine ⟨_,rfl,iteF ?_⟩
  have s3:=s1.trans s12
  refine ⟨_,rfl,l,rfl,⟨_,s3.seq hF.l⟩,fun D3 hD3=>?_⟩
  refine comp_list (xs:=fs.map fun f=>V.ref f.a) (CI3 H2 d ds D3) ?_ ?_ ?_ ?_ ?_
  ·exact ⟨none,none,Same.new hD3,upd_same,rfl,rfl⟩
  ·rintro i σ ys H' hi ⟨v1,v2,s,hD',rfl,rfl⟩
   exact ⟨(s3.trans s).seq hF.l,hD',by rw [List.length_map,List.length_replicate]; exact Nat.le_refl _⟩
  ·rw [List.length_map]; exact Nat.le_of_lt (small1000 (by lia))
  ·rintro i y σ ys H' hy ⟨v1,v2,s,hD',rfl,rfl⟩
   obtain ⟨f,hf,rfl⟩:=refs_get hy
   have hm:=List.mem_of_getElem? hf
   have s4:=s3.trans s
   refine ⟨f.a,_,rfl,s4.seqT (hF.p f hm),rfl,_,_,rfl,_,_,rfl,rfl,?_⟩
   obtain ⟨x,hx⟩:=find_reader (ds:=ds) (z:=f.z) (by rw [← he]; exact List.mem_map.mpr ⟨f,hm,rfl⟩)
   refine ⟨_,rfl,_,rfl,_,rfl,d,f.t,ds,f.z,x,f.v,f.o,rfl,hD.same s4,s4 _ _ (hF.t f hm),hx,(hF.v f hm).same s4,hw f hm x hx,fun H5 s5=>⟨s5 _ _ hD',_,_,Same.at hD3 (s.trans s5),upd_same,?_,rfl⟩⟩
   rw [List.replicate_succ',List.map_append]
   rfl
  rintro σ ys H3 ⟨v1,v2,s4,hD3',rfl,rfl⟩
  refine ⟨D3,_,rfl,SqL.of hD3',?_⟩
  have e2:∀ n:Nat,(List.replicate n true).all id=true:=fun n=>by
   rw [List.all_eq_true]
   intro b hb
   exact (List.eq_of_mem_replicate hb)
  rw [e2]
  exact q H3 (s3.trans s4)
theorem sc_linesfit:FnScope ["program","done","lines"] ["program","done","lines"] (defScope s_linesfit):=⟨rfl,rfl,rfl,by decide +kernel,rfl,by decide +kernel,by decide +kernel⟩
theorem ok_linesfit {f:Addr} {fd:FuncData} (F:Fun K "lines_fit" "lines_fit" s_linesfit f fd) (T:Txt K mg) (h_places:Has P w K mg base 3 "places" ["program"] (sp_places K)) (h_writersto:Has P w K mg base 3 "writers_to" ["done","place"] (sp_writersto K)):FnOk P w K mg base CX0 4 f fd ["program","done","lines"] (sp_linesfit K):=by
 refine F.ok (k:=3) sc_linesfit (fun vs H Q E h=>?_) (fun cdv A outer s H vs Q E hr h=>?_)
 ·obtain ⟨p,d,m,hs,S,C,ds,ls,rfl,_⟩:=h
  rfl
 ·obtain ⟨p,d,m,hs,S,C,ds,ls,rfl,hP,G,hD,hL,hn,hpl,hw,q⟩:=h
  have hu:=hu_of hr
  refine ⟨_,(pss_cons (ps_if (pt_cmpR (op_neC (hu_deep hr)) (pe_comp (Nc:=["place","line"]) (nt:=2) (js:=[]) rfl ⟨rfl,rfl,rfl,rfl,.nil,rfl,⟨["place","line"],[],rfl,rfl,.nil⟩⟩ (pi_list (pv 2)) (fun C s3 H3 fp pins=>⟨(pg_tupK (K:=K) 2 rfl rfl (pgs_cons (pg_name (i:=0) (show (["place","line"]:List Str).Nodup by decide +kernel) rfl (Or.inl rfl) (hf:=Or.inr rfl)) (pgs_cons (pg_name (i:=1) (show (["place","line"]:List Str).Nodup by decide +kernel) rfl (Or.inl rfl) (hf:=Or.inr rfl)) pgs_nil)) rfl rfl),pts_nil,(pv 0)⟩)) (pe_fn h_places (hr.mono (by decide)) (pa_cons (pv 0) pa_nil)) (nomark _))
   (pss_one (ps_ret pe_bl))
   pss_nil)
   (pss_one (ps_ret (pe_callB (call_all_bools rfl) rfl T.n_all bt_all (pa_cons (pe_comp (Nc:=["place","line","done"]) (nt:=2) (js:=[1]) rfl ⟨rfl,rfl,rfl,rfl,(.cons rfl .nil),rfl,⟨["place","line"],["done"],rfl,rfl,(.cons rfl rfl rfl .nil)⟩⟩ (pi_list (pv 2)) (fun C s3 H3 fp pins=>⟨(pg_tupK (K:=K) 2 rfl rfl (pgs_cons (pg_name (i:=0) (show (["place","line","done"]:List Str).Nodup by decide +kernel) rfl (Or.inl rfl) (hf:=Or.inr rfl)) (pgs_cons (pg_name (i:=1) (show (["place","line","done"]:List Str).Nodup by decide +kernel) rfl (Or.inl rfl) (hf:=Or.inr rfl)) pgs_nil)) rfl rfl),pts_nil,(pe_cmpR (op_eqCK (K:=K) rfl (hu_deep hr)) (pe_callB (call_sorted_tupsK (K:=K) rfl) rfl T.n_sorted bt_sorted (pa_cons (pv 1) pa_nil)) (pe_fn h_writersto (hr.mono (by decide)) (pa_cons (pv 2) (pa_cons (pv 0) pa_nil))) (nomark _))⟩)) pa_nil))))),?_⟩
  try dsimp only [nox_K]
  refine ⟨_,rfl,m,rfl,⟨_,hL.l⟩,fun D hDn=>?_⟩
  refine comp_list (xs:=ls.map fun x=>V.ref x.a) (CI4 H D ls) ?_ ?_ ?_ ?_ ?_
  ·exact ⟨none,none,Same.new hDn,upd_same,rfl,rfl⟩
  ·rintro i σ ys H' hi ⟨v1,v2,s,hD',rfl,rfl⟩
   exact ⟨s.seq hL.l,hD',by rw [List.length_map,List.length_map,List.length_take]; lia⟩
  ·rw [List.length_map]; exact Nat.le_of_lt (small1000 (by lia))
  ·rintro i y σ ys H' hy ⟨v1,v2,s,hD',rfl,rfl⟩
   obtain ⟨x,hx,rfl⟩:=refs_get hy
   refine ⟨x.a,_,rfl,s.seqT (hL.p x (List.mem_of_getElem? hx)),rfl,_,_,rfl,_,_,rfl,rfl,?_⟩
   refine ⟨_,rfl,hD',_,_,Same.at hDn s,upd_same,?_,rfl⟩
   rw [List.take_add_one,hx,List.map_append,List.map_append]
   rfl
  rintro σ ys H1 ⟨v1,v2,s1,hD1,rfl,rfl⟩
  rw [List.length_map,List.take_of_length_le (Nat.le_refl _)] at hD1
  refine ⟨_,rfl,p,hs,S,C,rfl,hP.same s1,G,fun l us H2 s2 _ hl hru hmu=>?_⟩
  have e:=hpl us hru hmu
  refine ⟨D,l,_,rfl,rfl,DT.strs (xs:=us) (by rw [← e]; exact SqL.of (s2 _ _ hD1)) (SqL.of hl),_,rfl,iteF ?_⟩
  have s3:=s1.trans s2
  refine ⟨_,rfl,m,rfl,⟨_,s3.seq hL.l⟩,fun D3 hD3=>?_⟩
  refine comp_list (xs:=ls.map fun x=>V.ref x.a) (CI5 H2 D3 d) ?_ ?_ ?_ ?_ ?_
  ·exact ⟨none,none,Same.new hD3,upd_same,rfl,rfl⟩
  ·rintro i σ ys H' hi ⟨v1,v2,s,hD',rfl,rfl⟩
   exact ⟨(s3.trans s).seq hL.l,hD',by rw [List.length_map,List.length_replicate]; exact Nat.le_refl _⟩
  ·rw [List.length_map]; exact Nat.le_of_lt (small1000 (by lia))
  ·rintro i y σ ys H' hy ⟨v1,v2,s,hD',rfl,rfl⟩
   obtain ⟨x,hx,rfl⟩:=refs_get hy
   have hm:=List.mem_of_getElem? hx
   have s4:=s3.trans s
   refine ⟨x.a,_,rfl,s4.seqT (hL.p x hm),rfl,_,_,rfl,_,_,rfl,rfl,?_⟩
   obtain ⟨tk,eps,h64⟩:=hL.q x hm
   have tk4:=tks_same s4 tk
   have hsh:∀ r∈x.ps,SqT K H' r.1 (r.2.map kV)∧r.2.map kKind=[true,true]:=fun r hr=>by
    refine ⟨tk4.ts r hr,?_⟩
    have:r.2∈x.zs.map pk:=by rw [← eps]; exact List.mem_map.mpr ⟨r,hr,rfl⟩
    obtain ⟨z,_,e2⟩:=List.mem_map.mp this
    rw [← e2]; rfl
   refine ⟨_,rfl,x.l,x.ps,[true,true],rfl,tk4.l,hsh,(fun z=>nomatch z),h64,fun l2 ps' hl2 hp' hr'=>?_⟩
   have s5:Same H' (upd H' l2 (.lst (ps'.map fun q=>V.ref q.1))):=Same.new hl2
   have hD5:=hD.same (s4.trans s5)
   refine ⟨_,rfl,_,rfl,d,ds,x.pl,rfl,hD5.d,hD5.n,hD5.nd,hD5.is_,fun l3 ps3 H6 s6 _ hl3 hp3=>?_⟩
   have k1:TKs K H6 l2 ps':=⟨SqL.of (s6 _ _ upd_same),fun r hr=>s6.seqT (s5.seqT (tk4.ts r (hp'.mem_iff.mp hr)))⟩
   refine ⟨l2,l3,_,rfl,rfl,DT.lists k1 (hp3.tks hl3),s6 _ _ (s5 _ _ hD'),_,_,Same.at hD3 (s.trans (s5.trans s6)),upd_same,?_,rfl⟩
   have ee:ps'.map (fun q:TK=>q.2)=ps3.map (fun q:TK=>q.2):=(sorted_pts eps hp' hr' (hw x hm).1 (hw x hm).2).trans hp3.eq.symm
   rw [decide_eq_true ee,List.replicate_succ',List.map_append]
   rfl
  rintro σ ys H3 ⟨v1,v2,s4,hD3',rfl,rfl⟩
  refine ⟨D3,_,rfl,SqL.of hD3',?_⟩
  have e2:∀ n:Nat,(List.replicate n true).all id=true:=fun n=>by
   rw [List.all_eq_true]
   intro b hb
   exact (List.eq_of_mem_replicate hb)
  rw [e2]
  exact q H3 (s3.trans s4)
end
end Own
set_option Elab.async false
set_option linter.all false
set_option maxRecDepth 100000
set_option maxHeartbeats 4100000
namespace Own
open PySem L2
noncomputable def wordOf:Deed→Str
 | .put _ _ _=>"put" | .get _ _ _=>"get" | .swap _ _ _ _=>"swap" | .fence _=>"fence" | .bar _=>"bar"
noncomputable def hasPut (d:Deed) (has:List (Key×V)) (n:Int):List (Key×V):=match d with
 | .get c _ _=>putK has (Sum.inr c) (.int n)
 | .swap c _ _ _=>putK has (Sum.inr c) (.int n)
 | _=>has
structure WS where
 done:Done
 stops:List (Z2×Str)
 has:List (Key×V)
noncomputable def stepW (num:Z2→Int) (z:Z2) (x:DD) (s:WS):WS :=
 if holdsG x.g s.has=true then
  if pt x.d=true then ⟨s.done ++ [(z,x)],s.stops,hasPut x.d s.has (num z)⟩ else ⟨s.done,s.stops ++ [(z,wordOf x.d)],s.has⟩
 else s
noncomputable def ptAt (h:Nat) (ds:List DD) (i:Nat):Z2:=((h:Int),(npts (ds.take i):Int))
noncomputable def handW (num:Z2→Int) (h:Nat) (ds:List DD):Nat→WS→WS
 | 0,s=>s
 | i + 1,s=>match ds[i]? with
  | some x=>stepW num (ptAt h ds i) x (handW num h ds i s)
  | none=>handW num h ds i s
structure PW3 where
 done:Done
 stops:List (Z2×Str)
 filled:List (List (Key×V))
noncomputable def progW (num:Z2→Int) (hs:Hands):Nat→PW3
 | 0=>⟨[],[],[]⟩
 | i + 1 =>
  let s:=handW num i (handAt hs i) (handAt hs i).length ⟨(progW num hs i).done,(progW num hs i).stops,[]⟩
  ⟨s.done,s.stops,(progW num hs i).filled ++ [s.has]⟩
theorem handW_succ {num:Z2→Int} {h:Nat} {ds:List DD} {i:Nat} {s:WS} {x:DD} (hx:ds[i]?=some x):handW num h ds (i + 1) s=stepW num (ptAt h ds i) x (handW num h ds i s):=by
 show (match ds[i]? with | some x=>stepW num (ptAt h ds i) x (handW num h ds i s) | none=>handW num h ds i s)=_
 rw [hx]
theorem step_done (num:Z2→Int) (z:Z2) (x:DD) (s:WS):(stepW num z x s).done=s.done∨((stepW num z x s).done=s.done ++ [(z,x)]∧pt x.d=true):=by
 unfold stepW
 split
 ·split
  ·rename_i c; exact .inr ⟨rfl,c⟩
  ·exact .inl rfl
 ·exact .inl rfl
theorem step_len (num:Z2→Int) (z:Z2) (x:DD) (s:WS):(stepW num z x s).done.length≤s.done.length + 1∧(stepW num z x s).stops.length≤s.stops.length + 1:=by
 unfold stepW
 split
 ·split
  ·simp
  ·simp
 ·simp
theorem handW_len (num:Z2→Int) (h:Nat) (ds:List DD) (s:WS):∀ i,(handW num h ds i s).done.length≤s.done.length + i∧(handW num h ds i s).stops.length≤s.stops.length + i
 | 0=>⟨Nat.le_refl _,Nat.le_refl _⟩
 | i + 1=>by
  have ih:=handW_len num h ds s i
  cases e:ds[i]? with
  | none =>
   have:handW num h ds (i + 1) s=handW num h ds i s:=by
    show (match ds[i]? with | some x=>stepW num (ptAt h ds i) x (handW num h ds i s) | none=>handW num h ds i s)=_
    rw [e]
   rw [this]; lia
  | some x =>
   rw [handW_succ e]
   have:=step_len num (ptAt h ds i) x (handW num h ds i s)
   lia
theorem handW_sub (num:Z2→Int) (h:Nat) (ds:List DD) (s:WS):∀ {i j:Nat},i≤j→∀ q∈(handW num h ds i s).done,q∈(handW num h ds j s).done:=by
 intro i j hij
 obtain ⟨d,rfl⟩:∃ d,j=i + d:=⟨j - i,by lia⟩
 induction d with
 | zero=>exact fun q hq=>hq
 | succ d ih =>
  intro q hq
  have:=ih (by lia) q hq
  cases e:ds[i + d]? with
  | none =>
   have e2:handW num h ds (i + (d + 1)) s=handW num h ds (i + d) s:=by
    show (match ds[i + d]? with | some x=>stepW num (ptAt h ds (i + d)) x (handW num h ds (i + d) s) | none=>handW num h ds (i + d) s)=_
    rw [e]
   rw [e2]; exact this
  | some x =>
   have e2:handW num h ds (i + (d + 1)) s=stepW num (ptAt h ds (i + d)) x (handW num h ds (i + d) s):=handW_succ e
   rw [e2]
   rcases step_done num (ptAt h ds (i + d)) x (handW num h ds (i + d) s) with e3 | ⟨e3,_⟩
   ·rw [e3]; exact this
   ·rw [e3]; exact List.mem_append_left _ this
theorem progW_sub (num:Z2→Int) (hs:Hands):∀ {i j:Nat},i≤j→∀ q∈(progW num hs i).done,q∈(progW num hs j).done:=by
 intro i j hij
 obtain ⟨d,rfl⟩:∃ d,j=i + d:=⟨j - i,by lia⟩
 induction d with
 | zero=>exact fun q hq=>hq
 | succ d ih =>
  intro q hq
  exact handW_sub num (i + d) (handAt hs (i + d)) ⟨(progW num hs (i + d)).done,(progW num hs (i + d)).stops,[]⟩ (Nat.zero_le _) q (ih (by lia) q hq)
noncomputable def Below (h:Nat) (k:Nat) (z:Z2):Prop:=z.1 < (h:Int)∨z.1=(h:Int)∧z.2 < (k:Int)
structure Rising (h k:Nat) (ds:Done):Prop where
 r:(ds.map (·.1)).Pairwise zLt
 b:∀ q∈ds,Below h k q.1
 p:∀ q∈ds,pt q.2.d=true
theorem npts_succ {ds:List DD} {i:Nat} {x:DD} (hx:ds[i]?=some x):npts (ds.take (i + 1))=npts (ds.take i) + (if pt x.d=true then 1 else 0):=by
 unfold npts
 rw [ptsOf_take_succ hx,List.length_append]
 by_cases c:pt x.d=true
 ·rw [if_pos c,if_pos c]; rfl
 ·rw [if_neg c,if_neg c]; rfl
theorem Rising.more {h k k':Nat} {ds:Done} (hk:k≤k') (r:Rising h k ds):Rising h k' ds:=⟨r.r,fun q hq=>by
 rcases r.b q hq with c | ⟨c1,c2⟩
 ·exact .inl c
 ·exact .inr ⟨c1,by lia⟩,r.p⟩
theorem Rising.put {h k:Nat} {ds:Done} {x:DD} (r:Rising h k ds) (c:pt x.d=true):Rising h (k + 1) (ds ++ [(((h:Int),(k:Int)),x)]):=by
 refine ⟨?_,fun q hq=>?_,fun q hq=>?_⟩
 ·rw [List.map_append,List.pairwise_append]
  refine ⟨r.r,List.pairwise_singleton _ _,fun a ha b hb=>?_⟩
  obtain ⟨q,hq,rfl⟩:=List.mem_map.mp ha
  rw [List.mem_singleton.mp hb]
  rcases r.b q hq with c | ⟨c1,c2⟩
  ·exact .inl c
  ·exact .inr ⟨c1,c2⟩
 ·rcases List.mem_append.mp hq with hq | hq
  ·exact (r.more (Nat.le_succ k)).b q hq
  ·rw [List.mem_singleton.mp hq]
   exact .inr ⟨rfl,by show (k:Int) < ((k + 1:Nat):Int); lia⟩
 ·rcases List.mem_append.mp hq with hq | hq
  ·exact r.p q hq
  ·rw [List.mem_singleton.mp hq]; exact c
theorem Rising.next {h k:Nat} {ds:Done} (r:Rising h k ds):Rising (h + 1) 0 ds:=by
 refine ⟨r.r,fun q hq=>?_,r.p⟩
 rcases r.b q hq with c | ⟨c1,c2⟩
 ·exact .inl (by lia)
 ·exact .inl (by lia)
theorem handW_rising (num:Z2→Int) (h:Nat) (ds:List DD) {s:WS} (r:Rising h 0 s.done):∀ i,Rising h (npts (ds.take i)) (handW num h ds i s).done
 | 0=>r
 | i + 1=>by
  have ih:=handW_rising num h ds r i
  cases e:ds[i]? with
  | none =>
   have e1:handW num h ds (i + 1) s=handW num h ds i s:=by
    show (match ds[i]? with | some x=>stepW num (ptAt h ds i) x (handW num h ds i s) | none=>handW num h ds i s)=_
    rw [e]
   have e2:ds.take (i + 1)=ds.take i:=by rw [List.take_add_one,e]; simp
   rw [e1,e2]; exact ih
  | some x =>
   rw [handW_succ e,npts_succ e]
   rcases step_done num (ptAt h ds i) x (handW num h ds i s) with e3 | ⟨e3,c⟩
   ·rw [e3]; exact ih.more (Nat.le_add_right _ _)
   ·rw [e3,if_pos c]; exact ih.put c
theorem progW_rising (num:Z2→Int) (hs:Hands):∀ i,Rising i 0 (progW num hs i).done
 | 0=>⟨List.Pairwise.nil,fun q hq=>(nomatch hq),fun q hq=>(nomatch hq)⟩
 | i + 1=>(handW_rising num i (handAt hs i) (s:=⟨(progW num hs i).done,(progW num hs i).stops,[]⟩) (progW_rising num hs i) _).next
theorem progW_len {S C:List Str} {hs:Hands} (num:Z2→Int) (G:Good S C hs):∀ i,(progW num hs i).done.length≤40 * i∧(progW num hs i).stops.length≤40 * i∧(progW num hs i).filled.length=i
 | 0=>⟨Nat.le_refl _,Nat.le_refl _,rfl⟩
 | i + 1=>by
  obtain ⟨h1,h2,h3⟩:=progW_len num G i
  have h4:=handW_len num i (handAt hs i) ⟨(progW num hs i).done,(progW num hs i).stops,[]⟩ (handAt hs i).length
  have h5:(handAt hs i).length≤40:=by
   unfold handAt
   cases e:hs[i]? with
   | none=>exact Nat.zero_le _
   | some hd=>exact G.nd hd (List.mem_of_getElem? e)
  refine ⟨?_,?_,?_⟩
  ·show (handW num i (handAt hs i) (handAt hs i).length ⟨(progW num hs i).done,(progW num hs i).stops,[]⟩).done.length≤_
   have:=h4.1
   dsimp only at this
   lia
  ·show (handW num i (handAt hs i) (handAt hs i).length ⟨(progW num hs i).done,(progW num hs i).stops,[]⟩).stops.length≤_
   have:=h4.2
   dsimp only at this
   lia
  ·show ((progW num hs i).filled ++ [_]).length=i + 1
   rw [List.length_append,h3]; rfl
theorem zLt_ne {a b:Z2} (h:zLt a b):a≠b:=fun e=>by
 subst e
 rcases h with c | ⟨_,c⟩ <;> lia
theorem Rising.nodup {h k:Nat} {ds:Done} (r:Rising h k ds):(ds.map (·.1)).Nodup:=r.r.imp fun h=>zLt_ne h
theorem Rising.new {h k:Nat} {ds:Done} (r:Rising h k ds):∀ q∈ds,q.1≠(((h:Int),(k:Int)):Z2):=fun q hq e=>by
 rcases r.b q hq with c | ⟨_,c⟩
 ·rw [e] at c; exact absurd c (by show ¬ (h:Int) < (h:Int); lia)
 ·rw [e] at c; exact absurd c (by show ¬ (k:Int) < (k:Int); lia)
structure StopsAt (H:Hp) (ss:List Addr) (zs:List (Z2×Str)):Prop where
 len:ss.length=zs.length
 at_:∀ (i:Nat) (a:Addr) (z:Z2×Str),ss[i]?=some a→zs[i]?=some z→H a=some (.tup [.int z.1.1,.int z.1.2,.str z.2])
structure FilledAt (H:Hp) (ff:List Addr) (cs:List (List (Key×V))):Prop where
 len:ff.length=cs.length
 at_:∀ (i:Nat) (a:Addr) (c:List (Key×V)),ff[i]?=some a→cs[i]?=some c→H a=some (.dK c)
structure WkAt (C:Addr) (H:Hp) (wa dx dn st fl:Addr) (D:Done) (S:List (Z2×Str)) (ss ff:List Addr) (cs:List (List (Key×V))):Prop where
 eob:H wa=some (.ins C dx (walkF dn st fl))
 edn:H dn=some (.dT (doneK D))
 est:H st=some (.lst (ss.map V.ref))
 sa:StopsAt H ss S
 efl:H fl=some (.lst (ff.map V.ref))
 fa:FilledAt H ff cs
 ne:st≠fl
theorem fresh_at {H:Hp} {ff:List Addr} {cs:List (List (Key×V))} (h:FilledAt H ff cs) {a:Addr} (ha:H a=none):a ∉ ff:=fun hm=>by
 obtain ⟨i,hi⟩:=List.getElem?_of_mem hm
 have hl:i < cs.length:=by rw [← h.len]; exact (List.getElem?_eq_some_iff.mp hi).1
 have:=h.at_ i a cs[i] hi (List.getElem?_eq_getElem hl)
 rw [ha] at this; cases this
section
variable {C:Addr} {H H':Hp} {wa dx dn st fl:Addr} {D:Done} {S:List (Z2×Str)} {ss ff:List Addr} {cs:List (List (Key×V))}
theorem WkAt.same (s:Same H H') (h:WkAt C H wa dx dn st fl D S ss ff cs):WkAt C H' wa dx dn st fl D S ss ff cs :=
 ⟨s _ _ h.eob,s _ _ h.edn,s _ _ h.est,⟨h.sa.len,fun i a z e1 e2=>s _ _ (h.sa.at_ i a z e1 e2)⟩,s _ _ h.efl,⟨h.fa.len,fun i a c e1 e2=>s _ _ (h.fa.at_ i a c e1 e2)⟩,h.ne⟩
theorem WkAt.cup {ha:Addr} {k1 k2:List (Key×V)} (e:H ha=some (.dK k1)) (n:ha ∉ ff) (h:WkAt C H wa dx dn st fl D S ss ff cs):WkAt C (upd H ha (.dK k2)) wa dx dn st fl D S ss ff cs :=
 ⟨by rw [upd_ne (ne_of h.eob e (by intro z; cases z))]; exact h.eob,by rw [upd_ne (ne_of h.edn e (by intro z; cases z))]; exact h.edn,by rw [upd_ne (ne_of h.est e (by intro z; cases z))]; exact h.est,
  ⟨h.sa.len,fun i a z e1 e2=>by have:=h.sa.at_ i a z e1 e2; rw [upd_ne (ne_of this e (by intro z; cases z))]; exact this⟩,by rw [upd_ne (ne_of h.efl e (by intro z; cases z))]; exact h.efl,
  ⟨h.fa.len,fun i a c e1 e2=>by rw [upd_ne (fun (z:a=ha)=>n (by rw [← z]; exact List.mem_of_getElem? e1))]; exact h.fa.at_ i a c e1 e2⟩,h.ne⟩
theorem WkAt.put {z:Z2} {x:DD} (hz:∀ q∈D,q.1≠z) (h:WkAt C H wa dx dn st fl D S ss ff cs):WkAt C (upd H dn (.dT (putK (doneK D) (pk z) (.ref x.a)))) wa dx dn st fl (D ++ [(z,x)]) S ss ff cs :=
 ⟨by rw [upd_ne (ne_of h.eob h.edn (by intro z; cases z))]; exact h.eob,by rw [upd_same,put_done hz],by rw [upd_ne (ne_of h.est h.edn (by intro z; cases z))]; exact h.est,
  ⟨h.sa.len,fun i a z e1 e2=>by have:=h.sa.at_ i a z e1 e2; rw [upd_ne (ne_of this h.edn (by intro z; cases z))]; exact this⟩,by rw [upd_ne (ne_of h.efl h.edn (by intro z; cases z))]; exact h.efl,
  ⟨h.fa.len,fun i a c e1 e2=>by have:=h.fa.at_ i a c e1 e2; rw [upd_ne (ne_of this h.edn (by intro z; cases z))]; exact this⟩,h.ne⟩
theorem WkAt.stop {t:Addr} {z:Z2} {wd:Str} (ht:H t=some (.tup [.int z.1,.int z.2,.str wd])) (h:WkAt C H wa dx dn st fl D S ss ff cs):WkAt C (upd H st (.lst (ss.map V.ref ++ [.ref t]))) wa dx dn st fl D (S ++ [(z,wd)]) (ss ++ [t]) ff cs:=by
 refine ⟨by rw [upd_ne (ne_of h.eob h.est (by intro z; cases z))]; exact h.eob,by rw [upd_ne (ne_of h.edn h.est (by intro z; cases z))]; exact h.edn,by rw [upd_same,List.map_append]; rfl,
  ⟨by rw [List.length_append,List.length_append,h.sa.len]; rfl,fun i a y e1 e2=>?_⟩,by rw [upd_ne h.ne.symm]; exact h.efl,
  ⟨h.fa.len,fun i a c e1 e2=>by have:=h.fa.at_ i a c e1 e2; rw [upd_ne (ne_of this h.est (by intro z; cases z))]; exact this⟩,h.ne⟩
 have:H a=some (.tup [.int y.1.1,.int y.1.2,.str y.2]):=by
  by_cases c:i < ss.length
  ·rw [List.getElem?_append_left c] at e1
   rw [List.getElem?_append_left (by rw [← h.sa.len]; exact c)] at e2
   exact h.sa.at_ i a y e1 e2
  ·rw [List.getElem?_append_right (by lia)] at e1
   rw [List.getElem?_append_right (by rw [← h.sa.len]; lia),← h.sa.len] at e2
   have e3:i - ss.length=0:=by
    have:=(List.getElem?_eq_some_iff.mp e1).1
    rw [List.length_cons,List.length_nil] at this
    lia
   rw [e3] at e1 e2
   cases e1
   cases e2
   exact ht
 rw [upd_ne (ne_of this h.est (by intro z; cases z))]
 exact this
theorem WkAt.fill {ha:Addr} {c:List (Key×V)} (hc:H ha=some (.dK c)) (h:WkAt C H wa dx dn st fl D S ss ff cs):WkAt C (upd H fl (.lst (ff.map V.ref ++ [.ref ha]))) wa dx dn st fl D S ss (ff ++ [ha]) (cs ++ [c]):=by
 refine ⟨by rw [upd_ne (ne_of h.eob h.efl (by intro z; cases z))]; exact h.eob,by rw [upd_ne (ne_of h.edn h.efl (by intro z; cases z))]; exact h.edn,by rw [upd_ne h.ne]; exact h.est,
  ⟨h.sa.len,fun i a z e1 e2=>by have:=h.sa.at_ i a z e1 e2; rw [upd_ne (ne_of this h.efl (by intro z; cases z))]; exact this⟩,by rw [upd_same,List.map_append]; rfl,
  ⟨by rw [List.length_append,List.length_append,h.fa.len]; rfl,fun i a y e1 e2=>?_⟩,h.ne⟩
 have:H a=some (.dK y):=by
  by_cases c:i < ff.length
  ·rw [List.getElem?_append_left c] at e1
   rw [List.getElem?_append_left (by rw [← h.fa.len]; exact c)] at e2
   exact h.fa.at_ i a y e1 e2
  ·rw [List.getElem?_append_right (by lia)] at e1
   rw [List.getElem?_append_right (by rw [← h.fa.len]; lia),← h.fa.len] at e2
   have e3:i - ff.length=0:=by
    have:=(List.getElem?_eq_some_iff.mp e1).1
    rw [List.length_cons,List.length_nil] at this
    lia
   rw [e3] at e1 e2
   cases e1
   cases e2
   exact hc
 rw [upd_ne (ne_of this h.efl (by intro z; cases z))]
 exact this
end
noncomputable def numBy (hs:Hands) (src:Z2→Option (Option Z2)) (z:Z2):Int:=numAt hs ((src z).getD none)
noncomputable def Told (hs:Hands) (src:Z2→Option (Option Z2)):Prop:=∀ q∈(progW (numBy hs src) hs hs.length).done,q.2.d.reads=true→∃ o,src q.1=some o∧∀ y,o=some y→writeAt hs y=true
inductive Sp_walkby (K:PySem.W.Frag) (vs:List V) (H:Hp) (Q:VK) (E_:XK):Prop
 | mk (p:Addr) (d:Addr) (hs:Hands) (S:List Str) (C:List Str) (src:Z2→Option (Option Z2)) (h0_:vs=[.ref p,.ref d]) (h1_:IsProg K H p hs) (h2_:Good S C hs) (h3_:SrcD K H d src) (h4_:Told hs src) (h5_:∀ (wa dx dn st fl:Addr) (ss ff:List Addr) (H':Hp),Same H H'→WkAt (cA K "Walk") H' wa dx dn st fl (progW (numBy hs src) hs hs.length).done (progW (numBy hs src) hs hs.length).stops ss ff (progW (numBy hs src) hs hs.length).filled→H wa=none→H dn=none→Q (.ref wa) H'):Sp_walkby K vs H Q E_
noncomputable def sp_walkby (K:PySem.W.Frag):Sp:=Sp_walkby K
end Own
set_option Elab.async false
set_option linter.all false
set_option maxRecDepth 100000
set_option maxHeartbeats 4100000
namespace Own
open PySem L2
theorem hasPut_read {d:Deed} {has:List (Key×V)} {n:Int} {c:Str} (hr:d.reads=true) (hc:d.cup=.str c):hasPut d has n=putK has (Sum.inr c) (.int n):=by
 cases d with
 | get c' x g=>cases hc; rfl
 | swap c' x m g=>cases hc; rfl
 | put x m g=>cases hr
 | fence g=>cases hr
 | bar g=>cases hr
theorem hasPut_no {d:Deed} {has:List (Key×V)} {n:Int} (hr:d.reads=false):hasPut d has n=has:=by
 cases d with
 | get c' x g=>cases hr
 | swap c' x m g=>cases hr
 | put x m g=>rfl
 | fence g=>rfl
 | bar g=>rfl
theorem word_at (d:Deed):atI d.items 0=some (.str (wordOf d)):=by cases d <;> rfl
theorem Ints.nil:Ints []:=fun kv h=>nomatch h
theorem fl_done {dn st fl:Addr}:(walkF dn st fl).lookup ("done":Str)=some (.ref dn):=by
 simp [walkF,List.lookup]
theorem fl_stops {dn st fl:Addr}:(walkF dn st fl).lookup ("stops":Str)=some (.ref st):=by
 have h:(("stops":Str) == "done")=false:=by decide +kernel
 simp [walkF,List.lookup,h]
theorem fl_filled {dn st fl:Addr}:(walkF dn st fl).lookup ("filled":Str)=some (.ref fl):=by
 have h:(("filled":Str) == "done")=false:=by decide +kernel
 have h2:(("filled":Str) == "stops")=false:=by decide +kernel
 simp [walkF,List.lookup,h,h2]
inductive EI1 (H:Hp) (K:PySem.W.Frag) (wa:Addr) (dx:Addr) (dn:Addr) (st:Addr) (fl:Addr) (num:Z2→Int) (hs:Hands) (p:Addr) (d:Addr) (i:Nat) (σ:St) (H':Hp):Prop
 | mk (ss:List Addr) (ff:List Addr) (v3:Option V) (v4:Option V) (v5:Option V) (v6:Option V) (v7:Option V) (h0_:Same H H') (h1_:WkAt (cA K "Walk") H' wa dx dn st fl (progW num hs i).done (progW num hs i).stops ss ff (progW num hs i).filled) (h2_:σ=[some (.ref p),some (.ref d),some (.ref wa),v3,v4,v5,v6,v7]):EI1 H K wa dx dn st fl num hs p d i σ H'
inductive EI2 (H:Hp) (K:PySem.W.Frag) (wa:Addr) (dx:Addr) (dn:Addr) (st:Addr) (fl:Addr) (num:Z2→Int) (i:Nat) (hd:Addr×List DD) (s0W:WS) (ff:List Addr) (hs:Hands) (ha:Addr) (l:Addr) (ts:List Addr) (p:Addr) (d:Addr) (j:Nat) (σ:St) (H4:Hp):Prop
 | mk (ss':List Addr) (v6:Option V) (v7:Option V) (h0_:Same H H4) (h1_:WkAt (cA K "Walk") H4 wa dx dn st fl (handW num i hd.2 j s0W).done (handW num i hd.2 j s0W).stops ss' ff (progW num hs i).filled) (h2_:H4 ha=some (.dK (handW num i hd.2 j s0W).has)) (h3_:Ints (handW num i hd.2 j s0W).has) (h4_:(handW num i hd.2 j s0W).has.length≤j) (h5_:H4 l=some (.lst (ts.map V.ref))) (h6_:(∀ (j:Nat) (t:Addr) (x:DD),ts[j]?=some t→hd.2[j]?=some x→H4 t=some (.tup [.int (npts (hd.2.take j)),.ref x.a]))) (h7_:σ=[some (.ref p),some (.ref d),some (.ref wa),some (.int i),some (.ref hd.1),some (.ref ha),v6,v7]):EI2 H K wa dx dn st fl num i hd s0W ff hs ha l ts p d j σ H4
section
variable {P:Program} {w:World} {K:PySem.W.Frag} {mg:Str→Option Value} {base:Heap}
theorem sc_walkby:FnScope ["program","sources","walk","h","hand","has","k","deed"] ["program","sources"] (defScope s_walkby):=⟨rfl,rfl,rfl,by decide +kernel,rfl,by decide +kernel,by decide +kernel⟩
theorem ok_walkby {f:Addr} {fd:FuncData} (F:Fun K "walk_by" "walk_by" s_walkby f fd) (T:Txt K mg) (h_Walkinit:HasI P w K mg base 1 "Walk" ["self"] (sp_Walkinit K)) (h_numbered:Has P w K mg base 3 "numbered" ["hand"] (sp_numbered K)) (h_isread:Has P w K mg base 1 "is_read" ["deed"] (sp_isread K)) (h_holds:Has P w K mg base 1 "holds" ["guard","cups"] (sp_holds K)) (h_placeof:Has P w K mg base 2 "place_of" ["deed"] (sp_placeof K)) (h_numberread:Has P w K mg base 5 "number_read" ["program","sources","reader"] (sp_numberread K)) (h_guardof:Has P w K mg base 1 "guard_of" ["deed"] (sp_guardof K)) (h_cupof:Has P w K mg base 2 "cup_of" ["deed"] (sp_cupof K)):FnOk P w K mg base CX0 6 f fd ["program","sources"] (sp_walkby K):=by
 refine F.ok (k:=5) sc_walkby (fun vs H Q E h=>?_) (fun cdv A outer s H vs Q E hr h=>?_)
 ·obtain ⟨p,d,hs,S,C,src,rfl,_⟩:=h
  rfl
 ·obtain ⟨p,d,hs,S,C,src,rfl,hP,G,hD,hT,q⟩:=h
  have hu:=hu_of hr
  refine ⟨_,(pss_cons (ps_set (i:=2) sc_walkby.nd rfl (Or.inl rfl) (pe_mk0 h_Walkinit (hr.mono (by decide))))
   (pss_cons (ps_for PassesOwn.never rfl (pi_enum rfl T.n_enumerate (pa_cons (pv 0) pa_nil)) (pg_tup rfl (pgs_cons (pg_name (i:=3) sc_walkby.nd rfl (Or.inl rfl)) (pgs_cons (pg_name (i:=4) sc_walkby.nd rfl (Or.inl rfl)) pgs_nil)))
   (pss_cons (ps_set (i:=5) sc_walkby.nd rfl (Or.inl rfl) pe_dnewK)
   (pss_cons (ps_for PassesOwn.never rfl (pi_list (pe_fn h_numbered (hr.mono (by decide)) (pa_cons (pv 4) pa_nil))) (pg_tup rfl (pgs_cons (pg_name (i:=6) sc_walkby.nd rfl (Or.inl rfl)) (pgs_cons (pg_name (i:=7) sc_walkby.nd rfl (Or.inl rfl)) pgs_nil)))
   (pss_cons (ps_if (pt_not (pt_val (pe_fn h_holds (hr.mono (by decide)) (pa_cons (pe_fn h_guardof (hr.mono (by decide)) (pa_cons (pv 7) pa_nil)) (pa_cons (pv 5) pa_nil)))))
   (pss_one ps_continue)
   pss_nil)
   (pss_cons (ps_if (pt_cmpR op_isN (pe_fn h_placeof (hr.mono (by decide)) (pa_cons (pv 7) pa_nil)) pe_non (nomark _))
   (pss_cons (ps_expr (pe_bm PySem.F.plainAttrs_list PySem.F.slot_list_append PySem.F.type_list_append mt_append (pe_fld (pv 2) rfl) (pa_cons (pe_tup (pa_cons (pv 3) (pa_cons (pv 6) (pa_cons (pe_ix ix_tup (pv 7) pe_int (fun _ _=>rfl)) pa_nil)))) pa_nil)))
   (pss_one ps_continue))
   pss_nil)
   (pss_cons (ps_dput hu (pe_fld (pv 2) rfl) (pe_tup (pa_cons (pv 3) (pa_cons (pv 6) pa_nil))) (pv 7) rfl)
   (pss_one (ps_if (pt_val (pe_fn h_isread (hr.mono (by decide)) (pa_cons (pv 7) pa_nil)))
   (pss_one (ps_dput hu (pv 5) (pe_fn h_cupof (hr.mono (by decide)) (pa_cons (pv 7) pa_nil)) (pe_fn h_numberread (hr.mono (by decide)) (pa_cons (pv 0) (pa_cons (pv 1) (pa_cons (pe_tup (pa_cons (pv 3) (pa_cons (pv 6) pa_nil))) pa_nil)))) rfl))
   pss_nil))))))
   (pss_one (ps_expr (pe_bm PySem.F.plainAttrs_list PySem.F.slot_list_append PySem.F.type_list_append mt_append (pe_fld (pv 2) rfl) (pa_cons (pv 5) pa_nil)))))))
   (pss_one (ps_ret (pv 2))))),?_⟩
  try dsimp only [nox_K]
  intro wa dx nwa ndx nex
  refine ⟨wa,dx,rfl,upd_same,fun dn st fl H1 ndn nst nfl e1 e2 e3 kp hob hdn hst hfl=>⟨rfl,?_⟩⟩
  have s0:Same H (upd (upd H dx (.own wa)) wa (.ins (cA K "Walk") dx [])):=fun b o e=>by
   rw [upd_ne (ne_of_none e nwa),upd_ne (ne_of_none e ndx)]
   exact e
  have s1:Same H H1:=fun b o e=>kp b o (s0 b o e) (ne_of_none e nwa)
  have wdn:H dn=none:=s0.free ndn
  have wst:H st=none:=s0.free nst
  have wfl:H fl=none:=s0.free nfl
  have W0:WkAt (cA K "Walk") H1 wa dx dn st fl [] [] [] [] []:=⟨hob,hdn,hst,⟨rfl,fun i a z e=>by simp at e⟩,hfl,⟨rfl,fun i a z e=>by simp at e⟩,e3⟩
  unfold Told at hT
  generalize hN:numBy hs src=num at hT q
  have hnum:∀ z o,src z=some o→num z=numAt hs o:=fun z o e=>by rw [← hN]; unfold numBy; rw [e]; rfl
  refine ⟨_,rfl,p,rfl,⟨_,s1.seq hP.l⟩,for_enum (xs:=hs.map fun h=>V.ref h.1) (EI1 H K wa dx dn st fl num hs p d) ?_ ?_ ?_ ?_⟩
  ·exact ⟨[],[],none,none,none,none,none,s1,W0,rfl⟩
  ·rintro i σ H' _ ⟨ss,ff,v3,v4,v5,v6,v7,s,_⟩
   exact s.seq hP.l
  ·rintro i y σ H' t hy ⟨ss,ff,v3,v4,v5,v6,v7,s,W,rfl⟩ ht
   obtain ⟨hd,hx,rfl⟩:=refs_get hy
   have hmem:=List.mem_of_getElem? hx
   have hi:i < hs.length:=(List.getElem?_eq_some_iff.mp hx).1
   have n40:=G.nd hd hmem
   have hH:=hP.hs hd hmem
   have plen:=progW_len num G i
   have hn6:=G.nh
   refine ⟨t,_,rfl,SqT.new,rfl,_,_,rfl,_,_,rfl,rfl,?_⟩
   intro ha hha
   have sA:Same H' (upd (upd H' t (.tup [.int i,.ref hd.1])) ha (.dK [])):=(Same.new ht).then hha
   obtain ⟨nat_,hha'⟩:=upd_none hha
   have wha:H ha=none:=s.free hha'
   have nff:ha ∉ ff:=fresh_at W.fa hha'
   refine ⟨_,rfl,hd.1,hd.2,rfl,hH.same (s.trans sA),n40,fun l ts H3 s3 nl hl hlen hts=>?_⟩
   have sB:=sA.trans s3
   have nlst:l≠st:=fun e=>by rw [e,sA _ _ W.est] at nl; cases nl
   have nlfl:l≠fl:=fun e=>by rw [e,sA _ _ W.efl] at nl; cases nl
   have rs:=progW_rising num hs i
   generalize hs0:(⟨(progW num hs i).done,(progW num hs i).stops,[]⟩:WS)=s0W
   have rs0:Rising i 0 s0W.done:=by rw [← hs0]; exact rs
   have ep:progW num hs (i + 1)=⟨(handW num i hd.2 hd.2.length s0W).done,(handW num i hd.2 hd.2.length s0W).stops,(progW num hs i).filled ++ [(handW num i hd.2 hd.2.length s0W).has]⟩:=by
    rw [← hs0,← handAt_of hx]; rfl
   refine ⟨l,rfl,⟨_,SqL.of hl⟩,for_list (xs:=ts.map V.ref) (EI2 H K wa dx dn st fl num i hd s0W ff hs ha l ts p d) ?_ ?_ ?_ ?_⟩
   ·refine ⟨ss,_,_,s.trans sB,?_,?_,?_,?_,hl,hts,rfl⟩
    ·show WkAt _ _ wa dx dn st fl s0W.done s0W.stops ss ff _
     rw [← hs0]; exact W.same sB
    ·show H3 ha=some (.dK s0W.has)
     rw [← hs0]; exact s3 _ _ upd_same
    ·show Ints s0W.has
     rw [← hs0]; exact Ints.nil
    ·show s0W.has.length≤0
     rw [← hs0]; exact Nat.le_refl 0
   ·rintro j σ H4 _ ⟨ss',v6,v7,s4,_,_,_,_,hl4,_⟩
    exact SqL.of hl4
   ·rintro j y σ H4 hy ⟨ss',v6,v7,s4,W4,hha4,hin4,hle4,hl4,ht4,rfl⟩
    obtain ⟨tj,htj,rfl⟩:=refs_get hy
    have hj:j < hd.2.length:=by rw [← hlen]; exact (List.getElem?_eq_some_iff.mp htj).1
    obtain ⟨x,hxj⟩:∃ x,hd.2[j]?=some x:=⟨_,List.getElem?_eq_getElem hj⟩
    have htj':=ht4 j tj x htj hxj
    have hxd:=hH.ds x (List.mem_of_getElem? hxj)
    have es:=handW_succ (num:=num) (h:=i) (s:=s0W) hxj
    generalize hst4:handW num i hd.2 j s0W=sj at W4 hha4 hin4 hle4 es
    have rj:Rising i (npts (hd.2.take j)) sj.done:=by rw [← hst4]; exact handW_rising num i hd.2 rs0 j
    have lj:=handW_len num i hd.2 s0W j
    rw [hst4,← hs0] at lj
    refine ⟨tj,_,rfl,SqT.of htj',rfl,_,_,rfl,_,_,rfl,rfl,?_⟩
    have hxT:=(hxd.same s4).t
    refine ⟨_,rfl,x.a,x.d,rfl,hxT,_,rfl,x.d.guard,ha,sj.has,x.g,rfl,hha4,hin4,DD.gok_ok (hxd.same s4).g,?_⟩
    cases hb:holdsG x.g sj.has with
    | false =>
     refine ⟨_,rfl,iteT ?_⟩
     have ee:handW num i hd.2 (j + 1) s0W=sj:=by rw [es]; unfold stepW; rw [if_neg (by rw [hb]; exact Bool.false_ne_true)]
     refine ⟨ss',_,_,s4,?_,?_,?_,?_,hl4,ht4,rfl⟩
     ·rw [ee]; exact W4
     ·rw [ee]; exact hha4
     ·rw [ee]; exact hin4
     ·rw [ee]; lia
    | true =>
     refine ⟨_,rfl,iteF ?_⟩
     refine ⟨_,rfl,x.a,x.d,rfl,hxT,fun H5 s5=>?_⟩
     have W5:=W4.same s5
     have hxT5:=s5.seqT hxT
     by_cases c:pt x.d=true
     ·obtain ⟨zp,zp1,zp2⟩:=place_spot c
      rw [zp2]
      have ee:handW num i hd.2 (j + 1) s0W=⟨sj.done ++ [(ptAt i hd.2 j,x)],sj.stops,hasPut x.d sj.has (num (ptAt i hd.2 j))⟩:=by rw [es]; unfold stepW; rw [if_pos hb,if_pos c]
      refine ⟨rfl,_,rfl,ifDf (fun z=>nomatch z) ?_⟩
      refine ⟨_,rfl,_,rfl,wa,_,dx,_,_,rfl,W5.eob,T.cl_Walk,T.na_Walk_done,fl_done,_,rfl,_,rfl,(by show 2≤sizeLine; decide),fun kt hkt=>?_⟩
      have s6:Same H5 (upd H5 kt (.tup [.int i,.int (npts (hd.2.take j))])):=Same.new hkt
      have W6:=W5.same s6
      have hzd:(doneK sj.done).length < sizeLine:=by
       have:=lj.1
       dsimp only at this
       rw [show (doneK sj.done).length=sj.done.length from List.length_map ..]
       exact small1000 (by lia)
      refine ⟨dn,_,rfl,DPut.t (k:=pk (ptAt i hd.2 j)) W6.edn upd_same hzd,?_⟩
      have W7:=W6.put (x:=x) (z:=ptAt i hd.2 j) rj.new
      have s7:Same H (upd (upd H5 kt (.tup [.int i,.int (npts (hd.2.take j))])) dn (.dT (putK (doneK sj.done) (pk (ptAt i hd.2 j)) (.ref x.a)))):=Same.at wdn (s4.trans (s5.trans s6))
      have k7:∀ {b:Addr} {u:HO},H4 b=some u→b≠dn→(upd (upd H5 kt (.tup [.int i,.int (npts (hd.2.take j))])) dn (.dT (putK (doneK sj.done) (pk (ptAt i hd.2 j)) (.ref x.a)))) b=some u:=fun e hb=>by
       rw [upd_ne hb]; exact s6 _ _ (s5 _ _ e)
      refine ⟨_,rfl,x.a,x.d,rfl,(hxd.same s7).t,fun H8 s8=>⟨_,rfl,ifB (fun cr=>?_) (fun cr=>?_)⟩⟩
      ·have hmemD:(ptAt i hd.2 j,x)∈(progW num hs hs.length).done:=by
        refine progW_sub num hs (show i + 1≤hs.length from hi) _ ?_
        rw [ep]
        refine handW_sub num i hd.2 s0W (show j + 1≤hd.2.length from hj) _ ?_
        rw [ee]
        exact List.mem_append_right _ (List.mem_singleton.mpr rfl)
       obtain ⟨o,ho,hwo⟩:=hT (ptAt i hd.2 j,x) hmemD cr
       have s78:=s7.trans s8
       refine ⟨_,rfl,_,rfl,_,rfl,_,rfl,(by show 2≤sizeLine; decide),fun k2 hk2=>?_⟩
       have s9:Same H8 (upd H8 k2 (.tup [.int i,.int (npts (hd.2.take j))])):=Same.new hk2
       have s79:=s78.trans s9
       refine ⟨p,d,k2,hs,S,C,src,ptAt i hd.2 j,o,rfl,hP.same s79,G,hD.same s79,upd_same,ho,hwo,fun H10 s10=>?_⟩
       obtain ⟨cu,cu1,cu2⟩:=cup_fill cr
       refine ⟨_,rfl,_,rfl,x.a,x.d,rfl,((hxd.same s79).same s10).t,fun H11 s11=>?_⟩
       rw [cu2]
       have sT:=s8.trans (s9.trans (s10.trans s11))
       have hha11:H11 ha=some (.dK sj.has):=sT _ _ (k7 hha4 (ne_of hha4 W4.edn (by intro z; cases z)))
       refine ⟨ha,_,rfl,DPut.k (k:=Sum.inr cu) hha11 (small1000 (by lia)),?_⟩
       have W11:=(W7.same sT).cup (k2:=putK sj.has (Sum.inr cu) (.int (numAt hs o))) hha11 nff
       have eh:hasPut x.d sj.has (num (ptAt i hd.2 j))=putK sj.has (Sum.inr cu) (.int (numAt hs o)):=by rw [hasPut_read cr cu2,hnum _ _ ho]
       have nl_ha:l≠ha:=fun e=>by rw [e,hha4] at hl4; cases hl4
       have k11:∀ {b:Addr} {u:HO},H4 b=some u→b≠dn→b≠ha→(upd H11 ha (.dK (putK sj.has (Sum.inr cu) (.int (numAt hs o))))) b=some u:=fun e h1 h2=>by
        rw [upd_ne h2]; exact sT _ _ (k7 e h1)
       refine ⟨ss',_,_,Same.at wha (s7.trans sT),?_,?_,?_,?_,k11 hl4 (ne_of hl4 W4.edn (by intro z; cases z)) nl_ha,fun j' t' x' e1 e2=>k11 (ht4 j' t' x' e1 e2) (ne_of (ht4 j' t' x' e1 e2) W4.edn (by intro z; cases z)) (ne_of (ht4 j' t' x' e1 e2) hha4 (by intro z; cases z)),rfl⟩
       ·rw [ee]; exact W11
       ·rw [ee]
        show _=some (HO.dK (hasPut x.d sj.has (num (ptAt i hd.2 j))))
        rw [upd_same,eh]
       ·rw [ee]
        show Ints (hasPut x.d sj.has (num (ptAt i hd.2 j)))
        rw [eh]; exact hin4.put cu _
       ·rw [ee]
        show (hasPut x.d sj.has (num (ptAt i hd.2 j))).length≤j + 1
        rw [eh]
        have:=length_putK sj.has (Sum.inr cu:Key) (.int (numAt hs o))
        lia
      ·have k8:∀ {b:Addr} {u:HO},H4 b=some u→b≠dn→H8 b=some u:=fun e h1=>s8 _ _ (k7 e h1)
       refine ⟨ss',_,_,s7.trans s8,?_,?_,?_,?_,k8 hl4 (ne_of hl4 W4.edn (by intro z; cases z)),fun j' t' x' e1 e2=>k8 (ht4 j' t' x' e1 e2) (ne_of (ht4 j' t' x' e1 e2) W4.edn (by intro z; cases z)),rfl⟩
       ·rw [ee]; exact W7.same s8
       ·rw [ee]
        show H8 ha=some (HO.dK (hasPut x.d sj.has (num (ptAt i hd.2 j))))
        rw [hasPut_no cr]
        exact k8 hha4 (ne_of hha4 W4.edn (by intro z; cases z))
       ·rw [ee]
        show Ints (hasPut x.d sj.has (num (ptAt i hd.2 j)))
        rw [hasPut_no cr]; exact hin4
       ·rw [ee]
        show (hasPut x.d sj.has (num (ptAt i hd.2 j))).length≤j + 1
        rw [hasPut_no cr]; lia
     ·have c':pt x.d=false:=by simpa using c
      rw [place_none c']
      have ee:handW num i hd.2 (j + 1) s0W=⟨sj.done,sj.stops ++ [(ptAt i hd.2 j,wordOf x.d)],sj.has⟩:=by rw [es]; unfold stepW; rw [if_pos hb,if_neg c]
      refine ⟨rfl,_,rfl,ifDt rfl ?_⟩
      refine ⟨_,rfl,wa,_,dx,_,_,rfl,W5.eob,T.cl_Walk,T.na_Walk_stops,fl_stops,.inl ⟨rfl,_,SqL.of W5.est⟩,_,rfl,_,rfl,_,rfl,x.a,_,_,_,rfl,rfl,hxT5,word_at x.d,(by show 3≤sizeLine; decide),fun tt htt=>?_⟩
      have s6:Same H5 (upd H5 tt (.tup [.int i,.int (npts (hd.2.take j)),.str (wordOf x.d)])):=Same.new htt
      have hz:(ss'.map V.ref).length < sizeLine:=by
       rw [List.length_map,W4.sa.len]
       have:=lj.2
       dsimp only at this
       exact small1000 (by lia)
      refine ⟨st,_,_,rfl,rfl,s6 _ _ W5.est,hz,?_⟩
      have W6:=(W5.same s6).stop (t:=tt) (z:=ptAt i hd.2 j) (wd:=wordOf x.d) upd_same
      have k6:∀ {b:Addr} {u:HO},H4 b=some u→b≠st→(upd (upd H5 tt (.tup [.int i,.int (npts (hd.2.take j)),.str (wordOf x.d)])) st (.lst (ss'.map V.ref ++ [.ref tt]))) b=some u:=fun e hb=>by
       rw [upd_ne hb]; exact s6 _ _ (s5 _ _ e)
      refine ⟨ss' ++ [tt],_,_,Same.at wst (s4.trans (s5.trans s6)),?_,?_,?_,?_,k6 hl4 nlst,fun j' t' x' e1 e2=>k6 (ht4 j' t' x' e1 e2) (ne_of (ht4 j' t' x' e1 e2) W4.est (by intro z; cases z)),rfl⟩
      ·rw [ee]; exact W6
      ·rw [ee]; exact k6 hha4 (ne_of hha4 W4.est (by intro z; cases z))
      ·rw [ee]; exact hin4
      ·rw [ee]; show sj.has.length≤j + 1; lia
   ·rintro σ H4 ⟨ss',v6,v7,s4,W4,hha4,hin4,hle4,hl4,ht4,rfl⟩
    rw [List.length_map,hlen] at W4 hha4
    have hz:(ff.map V.ref).length < sizeLine:=by rw [List.length_map,W4.fa.len,plen.2.2]; exact small1000 (by lia)
    refine ⟨_,rfl,wa,_,dx,_,_,rfl,W4.eob,T.cl_Walk,T.na_Walk_filled,fl_filled,.inl ⟨rfl,_,SqL.of W4.efl⟩,_,rfl,fl,_,_,rfl,rfl,W4.efl,hz,ss',ff ++ [ha],_,_,_,_,_,Same.at wfl s4,?_,rfl⟩
    rw [ep]
    exact W4.fill hha4
  ·rintro σ H' ⟨ss,ff,v3,v4,v5,v6,v7,s,W,rfl⟩
   rw [List.length_map] at W
   exact ⟨_,rfl,q wa dx dn st fl ss ff H' s W nwa wdn⟩
end
end Own
set_option Elab.async false
set_option linter.all false
set_option maxRecDepth 100000
set_option maxHeartbeats 4100000
namespace Own
open PySem L2
theorem hu_4 {A:Around} {k:Nat} (hr:Room k A):A.units + 4 < PySem.cLine:=by have:=hr.units; lia
theorem putK_new {κ:Type} [DecidableEq κ] {kvs:List (κ×V)} {k:κ} {v:V} (h:k ∉ kvs.map (·.1)):putK kvs k v=kvs ++ [(k,v)]:=by
 unfold putK
 have e:(kvs.any fun kv=>decide (kv.1=k))=false:=by
  rw [Bool.eq_false_iff]
  intro c
  obtain ⟨kv,hk,he⟩:=List.any_eq_true.mp c
  exact h (List.mem_map.mpr ⟨kv,hk,of_decide_eq_true he⟩)
 rw [if_neg (by rw [e]; exact Bool.false_ne_true)]
theorem foldP_nodup {κ:Type} [DecidableEq κ]:∀ (more kvs:List (κ×V)),((kvs ++ more).map (·.1)).Nodup→foldP kvs more=kvs ++ more
 | [],kvs,_=>by rw [List.append_nil]; rfl
 | x :: more,kvs,h=>by
  have hx:x.1 ∉ kvs.map (·.1):=by
   rw [List.map_append,List.nodup_append] at h
   intro c
   exact h.2.2 _ c _ (List.mem_cons_self ..) rfl
  show foldP (putK kvs x.1 x.2) more=_
  rw [putK_new hx,foldP_nodup more (kvs ++ [x]) (by rw [List.append_assoc]; exact h),List.append_assoc]
  rfl
noncomputable def srcOf (fs:List FR) (z:Z2):Option (Option Z2):=(fs.find? fun f=>decide (f.z=z)).map (·.o)
theorem val_src {K:PySem.W.Frag} {H:Hp}:∀ {fs:List FR},(∀ f∈fs,SrcV K H f.v f.o)→∀ z,match srcOf fs z with
  | none=>valV (fs.map fun f=>(pk f.z,f.v)) (pk z)=none
  | some o=>∃ v,valV (fs.map fun f=>(pk f.z,f.v)) (pk z)=some v∧SrcV K H v o
 | [],_,z=>rfl
 | f :: fs,h,z=>by
  by_cases c:f.z=z
  ·have e:srcOf (f :: fs) z=some f.o:=by unfold srcOf; rw [List.find?_cons_of_pos (by exact decide_eq_true c)]; rfl
   rw [e]
   exact ⟨f.v,valV_pos (show pk f.z=pk z by rw [c]),h f (List.mem_cons_self ..)⟩
  ·have e:srcOf (f :: fs) z=srcOf fs z:=by unfold srcOf; rw [List.find?_cons_of_neg (by simpa using c)]
   rw [e,List.map_cons,valV_neg (fun (e:pk f.z=pk z)=>c (pk_inj e))]
   exact val_src (fun g hg=>h g (List.mem_cons_of_mem _ hg)) z
theorem step_mem {num:Z2→Int} {z:Z2} {x:DD} {s:WS} {q:Z2×DD} (h:q∈(stepW num z x s).done):q∈s.done∨q=(z,x):=by
 rcases step_done num z x s with e | ⟨e,_⟩
 ·rw [e] at h; exact .inl h
 ·rw [e] at h
  rcases List.mem_append.mp h with h | h
  ·exact .inl h
  ·exact .inr (List.mem_singleton.mp h)
theorem handW_mem {num:Z2→Int} {h:Nat} {ds:List DD} {s:WS} {q:Z2×DD}:∀ {i:Nat},q∈(handW num h ds i s).done→q∈s.done∨q.2∈ds
 | 0,hq=>.inl hq
 | i + 1,hq=>by
  cases e:ds[i]? with
  | none =>
   have e1:handW num h ds (i + 1) s=handW num h ds i s:=by
    show (match ds[i]? with | some x=>stepW num (ptAt h ds i) x (handW num h ds i s) | none=>handW num h ds i s)=_
    rw [e]
   rw [e1] at hq
   exact handW_mem hq
  | some x =>
   rw [handW_succ e] at hq
   rcases step_mem hq with h1 | h1
   ·exact handW_mem h1
   ·rw [h1]; exact .inr (List.mem_of_getElem? e)
theorem progW_mem {num:Z2→Int} {hs:Hands} {q:Z2×DD}:∀ {i:Nat},q∈(progW num hs i).done→∃ hd∈hs,q.2∈hd.2
 | 0,hq=>nomatch hq
 | i + 1,hq=>by
  rcases handW_mem (s:=⟨(progW num hs i).done,(progW num hs i).stops,[]⟩) hq with h | h
  ·exact progW_mem h
  ·unfold handAt at h
   cases e:hs[i]? with
   | none=>rw [e] at h; cases h
   | some hd=>rw [e] at h; exact ⟨hd,List.mem_of_getElem? e,h⟩
theorem keyTups_pts {H:Hp}:∀ {as:List Addr} {D:Done},KeyTups H as (doneK D)→∃ ps:List TK,ps.map (·.1)=as∧PtsAt H ps (D.map (·.1))
 | [],[],_=>⟨[],rfl,PtsAt.nil⟩
 | [],_ :: _,h=>by cases h
 | _ :: _,[],h=>by cases h
 | a :: as,q :: D,h=>by
  cases h with
  | cons h t =>
   obtain ⟨ps,e1,e2⟩:=keyTups_pts t
   refine ⟨(a,pk q.1) :: ps,by rw [List.map_cons,e1],⟨by rw [List.map_cons,List.map_cons,List.map_cons,e2.eq],fun r hr=>?_⟩⟩
   rcases List.mem_cons.mp hr with rfl | hr
   ·exact h
   ·exact e2.at_ r hr
noncomputable def walkOf (hs:Hands) (fs:List FR):PW3:=progW (numBy hs (srcOf fs)) hs hs.length
structure Fits (hs:Hands) (fs:List FR) (ls:List LN):Prop where
 told:Told hs (srcOf fs)
 rd:fs.map (·.z)=readersOf (walkOf hs fs).done
 so:∀ f∈fs,∀ x,(f.z,x)∈(walkOf hs fs).done→∀ y,f.o=some y→y≠f.z∧∃ pl,x.d.place=.str pl∧y∈writersTo (walkOf hs fs).done pl
 pl:∀ us,RisingT us→(∀ z,z∈us ↔ z∈spotsTo hs hs.length)→ls.map (·.pl)=us
 li:∀ x∈ls,x.zs.Perm (writersTo (walkOf hs fs).done x.pl)
structure IsTale (K:PySem.W.Frag) (H:Hp) (t:Addr) (l m:Addr) (fs:List FR) (ls:List LN):Prop where
 t:SqT K H t [.ref l,.ref m]
 f:IsFroms K H l fs
 g:IsLines K H m ls
 nf:fs.length≤240
 nl:ls.length≤240
theorem IsTale.same {K:PySem.W.Frag} {H H':Hp} {t l m:Addr} {fs:List FR} {ls:List LN} (s:Same H H') (h:IsTale K H t l m fs ls):IsTale K H' t l m fs ls:=⟨s.seqT h.t,h.f.same s,h.g.same s,h.nf,h.nl⟩
theorem writers_rise {ds:Done} (h:(ds.map (·.1)).Pairwise zLt) (pl:Str):(writersTo ds pl).Pairwise zLt:=by
 unfold writersTo
 rw [List.pairwise_map] at h ⊢
 exact h.filter _
inductive Sp_wholewalk (K:PySem.W.Frag) (vs:List V) (H:Hp) (Q:VK) (E_:XK):Prop
 | mk (p:Addr) (t:Addr) (hs:Hands) (S:List Str) (C:List Str) (l:Addr) (m:Addr) (fs:List FR) (ls:List LN) (h0_:vs=[.ref p,.ref t]) (h1_:IsProg K H p hs) (h2_:Good S C hs) (h3_:IsTale K H t l m fs ls) (h4_:Fits hs fs ls) (h5_:∀ (wa dx dn st fl:Addr) (ss ff:List Addr) (H':Hp),Same H H'→WkAt (cA K "Walk") H' wa dx dn st fl (walkOf hs fs).done (walkOf hs fs).stops ss ff (walkOf hs fs).filled→H wa=none→Q (.ref wa) H'):Sp_wholewalk K vs H Q E_
noncomputable def sp_wholewalk (K:PySem.W.Frag):Sp:=Sp_wholewalk K
section
variable {P:Program} {w:World} {K:PySem.W.Frag} {mg:Str→Option Value} {base:Heap}
theorem sc_wholewalk:FnScope ["program","tale","walk"] ["program","tale"] (defScope s_wholewalk):=⟨rfl,rfl,rfl,by decide +kernel,rfl,by decide +kernel,by decide +kernel⟩
theorem ok_wholewalk {f:Addr} {fd:FuncData} (F:Fun K "whole_walk" "whole_walk" s_wholewalk f fd) (T:Txt K mg) (h_walkby:Has P w K mg base 6 "walk_by" ["program","sources"] (sp_walkby K)) (h_fromsfit:Has P w K mg base 5 "froms_fit" ["done","froms"] (sp_fromsfit K)) (h_linesfit:Has P w K mg base 4 "lines_fit" ["program","done","lines"] (sp_linesfit K)):FnOk P w K mg base CX0 7 f fd ["program","tale"] (sp_wholewalk K):=by
 refine F.ok (k:=6) sc_wholewalk (fun vs H Q E h=>?_) (fun cdv A outer s H vs Q E hr h=>?_)
 ·obtain ⟨p,t,hs,S,C,l,m,fs,ls,rfl,_⟩:=h
  rfl
 ·obtain ⟨p,t,hs,S,C,l,m,fs,ls,rfl,hP,G,hT,hF,q⟩:=h
  have hu:=hu_of hr
  have hu4:=hu_4 hr
  refine ⟨_,(pss_cons (ps_set (i:=2) sc_wholewalk.nd rfl (Or.inl rfl) (pe_fn h_walkby (hr.mono (by decide)) (pa_cons (pv 0) (pa_cons (pe_callTy (call_dict_pairsT rfl hu4) rfl T.n_dict bt_dict (pa_cons (pe_ix ix_tup (pv 1) pe_int (fun _ _=>rfl)) pa_nil)) pa_nil))))
   (pss_cons (ps_if (pt_not (pt_val (pe_fn h_fromsfit (hr.mono (by decide)) (pa_cons (pe_fld (pv 2) rfl) (pa_cons (pe_ix ix_tup (pv 1) pe_int (fun _ _=>rfl)) pa_nil)))))
   (pss_one ps_never)
   pss_nil)
   (pss_cons (ps_if (pt_not (pt_val (pe_fn h_linesfit (hr.mono (by decide)) (pa_cons (pv 0) (pa_cons (pe_fld (pv 2) rfl) (pa_cons (pe_ix ix_tup (pv 1) pe_int (fun _ _=>rfl)) pa_nil))))))
   (pss_one ps_never)
   pss_nil)
   (pss_one (ps_ret (pv 2)))))),?_⟩
  try dsimp only [nox_K]
  have nd:(fs.map (·.z)).Nodup:=by
   rw [hF.rd]
   have h1:=(progW_rising (numBy hs (srcOf fs)) hs hs.length).nodup
   unfold readersOf
   exact h1.sublist ((List.filter_sublist).map _)
  refine ⟨_,rfl,_,rfl,t,_,_,_,rfl,rfl,hT.t,at0,l,fs.map (fun f=>(f.a,f.t,pk f.z,f.v)),rfl,?_,?_,?_,fun d hd=>?_⟩
  ·rw [List.map_map]; exact hT.f.l
  ·rw [List.length_map]; have:=hT.nf; lia
  ·intro x hx
   obtain ⟨f,hf,rfl⟩:=List.mem_map.mp hx
   exact ⟨hT.f.p f hf,hT.f.t f hf⟩
  have ek:foldP [] ((fs.map fun f=>(f.a,f.t,pk f.z,f.v)).map fun x=>x.2.2)=fs.map fun f=>(pk f.z,f.v):=by
   rw [List.map_map,foldP_nodup]
   ·rfl
   ·rw [List.nil_append,List.map_map]
    show (fs.map fun f=>pk f.z).Nodup
    have:fs.map (fun f=>pk f.z)=(fs.map (·.z)).map pk:=by rw [List.map_map]; rfl
    rw [this]
    exact List.Pairwise.map _ (fun a b h e=>h (pk_inj e)) nd
  rw [ek]
  have s1:Same H (upd H d (.dT (fs.map fun f=>(pk f.z,f.v)))):=Same.new hd
  have hS:SrcD K (upd H d (.dT (fs.map fun f=>(pk f.z,f.v)))) d (srcOf fs):=⟨_,upd_same,val_src (hT.f.same s1).v⟩
  refine ⟨p,d,hs,S,C,srcOf fs,rfl,hP.same s1,G,hS,hF.told,fun wa dx dn st fl ss ff H2 s2 W nwa ndn=>?_⟩
  have s12:=s1.trans s2
  have hwo:(progW (numBy hs (srcOf fs)) hs hs.length)=walkOf hs fs:=rfl
  rw [hwo] at W
  have rs:Rising hs.length 0 (walkOf hs fs).done:=progW_rising _ hs hs.length
  have D2:DoneAt K H2 dn (walkOf hs fs).done:=⟨W.edn,by
   have:=(progW_len (numBy hs (srcOf fs)) G hs.length).1
   have:=G.nh
   rw [← hwo]; lia,rs.nodup,fun r hr=>by
   obtain ⟨hd,h1,h2⟩:=progW_mem hr
   exact ((hP.hs hd h1).ds _ h2).same s12,rs.p⟩
  have T2:=hT.same s12
  refine ⟨_,rfl,wa,_,dx,_,_,rfl,W.eob,T.cl_Walk,T.na_Walk_done,fl_done,_,rfl,t,_,_,_,rfl,rfl,T2.t,at0,dn,l,_,fs,rfl,D2,T2.f,T2.nf,hF.rd,hF.so,fun H3 s3=>⟨_,rfl,iteF ?_⟩⟩
  have W3:=W.same s3
  have T3:=T2.same s3
  refine ⟨_,rfl,_,rfl,wa,_,dx,_,_,rfl,W3.eob,T.cl_Walk,T.na_Walk_done,fl_done,_,rfl,t,_,_,_,rfl,rfl,T3.t,atI_nat (j:=1) rfl,p,dn,m,hs,S,C,_,ls,rfl,hP.same (s12.trans s3),G,D2.same s3,T3.g,T3.nl,hF.pl,fun x hx=>⟨hF.li x hx,writers_rise rs.r x.pl⟩,fun H4 s4=>⟨_,rfl,iteF ?_⟩⟩
  exact ⟨_,rfl,q wa dx dn st fl ss ff H4 (s12.trans (s3.trans s4)) (W3.same s4) (s1.free nwa)⟩
end
end Own
set_option Elab.async false
set_option linter.all false
set_option maxRecDepth 100000
set_option maxHeartbeats 4100000
namespace Own
open PySem L2
inductive Sp_Lcellat (K:PySem.W.Frag) (vs:List V) (H:Hp) (Q:VK) (E_:XK):Prop
 | mk (a:Addr) (ns:List Int) (k:Int) (h0_:vs=[.ref a,.int k]) (h1_:SqL K H a (ns.map V.int)) (h2_:0≤k) (h3_:Q (.int (ns.getD k.toNat 0)) H):Sp_Lcellat K vs H Q E_
noncomputable def sp_Lcellat (K:PySem.W.Frag):Sp:=Sp_Lcellat K
noncomputable def spMix:Sp:=fun vs H Q _=>Ex_2_4 (fun (c k:Int)=>vs=[.int c,.int k]) (fun c k=>0≤k) (fun c k=>k≤1000) (fun c k=>∀ n:Int,0≤n→Q (.int n) H)
noncomputable def sp_Lmixed (K:PySem.W.Frag):Sp:=spMix
noncomputable def sp_Lother (K:PySem.W.Frag):Sp:=spMix
noncomputable def sp_Lthird (K:PySem.W.Frag):Sp:=spMix
inductive Sp_Lnumber (K:PySem.W.Frag) (vs:List V) (H:Hp) (Q:VK) (E_:XK):Prop
 | mk (c:Int) (h0_:vs=[.int c]) (h1_:Fair c) (h2_:∀ n:Int,Q (.int n) H):Sp_Lnumber K vs H Q E_
noncomputable def sp_Lnumber (K:PySem.W.Frag):Sp:=Sp_Lnumber K
inductive Sp_Lsize (K:PySem.W.Frag) (vs:List V) (H:Hp) (Q:VK) (E_:XK):Prop
 | mk (a:Addr) (ns:List Int) (h0_:vs=[.ref a]) (h1_:SqL K H a (ns.map V.int)) (h2_:ns.length≤63) (h3_:∀ n:Int,0≤n→n≤40→Q (.int n) H):Sp_Lsize K vs H Q E_
noncomputable def sp_Lsize (K:PySem.W.Frag):Sp:=Sp_Lsize K
inductive Sp_Lplace (K:PySem.W.Frag) (vs:List V) (H:Hp) (Q:VK) (E_:XK):Prop
 | mk (p:Addr) (d:Deed) (h0_:vs=[.ref p]) (h1_:SqT K H p d.items) (h2_:pt d=true) (h3_:Q d.place H):Sp_Lplace K vs H Q E_
noncomputable def sp_Lplace (K:PySem.W.Frag):Sp:=Sp_Lplace K
section
variable {P:Program} {w:World} {K:PySem.W.Frag} {mg:Str→Option Value} {base:Heap}
theorem sc_Lcellat:FnScope ["_law_script","_law_k"] ["_law_script","_law_k"] (defScope s_Lcellat):=⟨rfl,rfl,rfl,by decide +kernel,rfl,by decide +kernel,by decide +kernel⟩
theorem ok_Lcellat {f:Addr} {fd:FuncData} (F:Fun K "_law_cell_at" "_law_cell_at" s_Lcellat f fd) (T:Txt K mg) :FnOk P w K mg base CX0 1 f fd ["_law_script","_law_k"] (sp_Lcellat K):=by
 refine F.ok (k:=0) sc_Lcellat (fun vs H Q E h=>?_) (fun cdv A outer s H vs Q E hr h=>?_)
 ·obtain ⟨a,ns,k,rfl,_⟩:=h
  rfl
 ·obtain ⟨a,ns,k,rfl,hS,h0,q⟩:=h
  refine ⟨_,(pss_cons (ps_if (pt_cmpR op_lt (pv 1) (pe_callB call_len_seq rfl T.n_len bt_len (pa_cons (pv 0) pa_nil)) (nomark _))
   (pss_one (ps_ret (pe_ix ix_list (pv 0) (pv 1) (fun _ _=>rfl))))
   pss_nil)
   (pss_one (ps_ret pe_int))),?_⟩
  try dsimp only [nox_K]
  refine ⟨_,rfl,_,rfl,a,_,rfl,.inl hS,_,_,rfl,rfl,_,rfl,ite2 (fun c=>?_) (fun c=>?_)⟩
  ·have c':k < ((ns.map V.int).length:Int):=of_decide_eq_true c
   rw [List.length_map] at c'
   obtain ⟨j,rfl⟩:=Int.eq_ofNat_of_zero_le h0
   have hj:j < ns.length:=by lia
   refine ⟨_,rfl,_,rfl,a,_,_,_,rfl,rfl,hS,atI_nat (v:=V.int ns[j]) (by rw [List.getElem?_map,List.getElem?_eq_getElem hj]; rfl),?_⟩
   have e:ns.getD ((j:Int)).toNat 0=ns[j]:=by rw [Int.toNat_natCast,List.getD_eq_getElem?_getD,List.getElem?_eq_getElem hj]; rfl
   rw [e] at q
   exact q
  ·have c':¬ k < ((ns.map V.int).length:Int):=fun z=>c (decide_eq_true z)
   rw [List.length_map] at c'
   have e:ns.getD k.toNat 0=0:=by rw [List.getD_eq_getElem?_getD,List.getElem?_eq_none (by lia)]; rfl
   rw [e] at q
   exact q
theorem sc_Lmixed:FnScope ["_law_cell","_law_k"] ["_law_cell","_law_k"] (defScope s_Lmixed):=⟨rfl,rfl,rfl,by decide +kernel,rfl,by decide +kernel,by decide +kernel⟩
theorem ok_Lmixed {f:Addr} {fd:FuncData} (F:Fun K "_law_mixed" "_law_mixed" s_Lmixed f fd) (T:Txt K mg) :FnOk P w K mg base CX0 1 f fd ["_law_cell","_law_k"] (sp_Lmixed K):=by
 refine F.ok (k:=0) sc_Lmixed (fun vs H Q E h=>?_) (fun cdv A outer s H vs Q E hr h=>?_)
 ·obtain ⟨c,k,rfl,_⟩:=h
  rfl
 ·obtain ⟨c,k,rfl,h0,h1,q⟩:=h
  refine ⟨_,(pss_one (ps_ret (pe_op op_mod (pe_op op_add (pe_op op_add (pe_op op_mulB (pe_op op_mod (pv 0) pe_int) pe_int) (pe_op op_mulB (pe_op op_mulB (pv 1) (pv 1)) pe_int)) pe_int) pe_int))),?_⟩
  try dsimp only [nox_K]
  exact ⟨_,rfl,_,_,rfl,rfl,(by show (0:Int) < 2147483647; decide),_,_,rfl,rfl,.inl (.inr ⟨by decide,by decide⟩),_,rfl,_,rfl,_,_,rfl,rfl,.inl (.inl ⟨by lia,by lia⟩),_,_,rfl,rfl,.inl (.inr ⟨by decide,by decide⟩),_,_,rfl,rfl,_,_,rfl,rfl,_,_,rfl,rfl,(by show (0:Int) < 2147483647; decide),q _ (Int.emod_nonneg _ (by decide))⟩
theorem sc_Lother:FnScope ["_law_cell","_law_k"] ["_law_cell","_law_k"] (defScope s_Lother):=⟨rfl,rfl,rfl,by decide +kernel,rfl,by decide +kernel,by decide +kernel⟩
theorem ok_Lother {f:Addr} {fd:FuncData} (F:Fun K "_law_other" "_law_other" s_Lother f fd) (T:Txt K mg) :FnOk P w K mg base CX0 1 f fd ["_law_cell","_law_k"] (sp_Lother K):=by
 refine F.ok (k:=0) sc_Lother (fun vs H Q E h=>?_) (fun cdv A outer s H vs Q E hr h=>?_)
 ·obtain ⟨c,k,rfl,_⟩:=h
  rfl
 ·obtain ⟨c,k,rfl,h0,h1,q⟩:=h
  refine ⟨_,(pss_one (ps_ret (pe_op op_mod (pe_op op_add (pe_op op_add (pe_op op_mulB (pe_op op_mod (pv 0) pe_int) pe_int) (pe_op op_mulB (pe_op op_mulB (pv 1) (pv 1)) pe_int)) pe_int) pe_int))),?_⟩
  try dsimp only [nox_K]
  exact ⟨_,rfl,_,_,rfl,rfl,(by show (0:Int) < 2147483629; decide),_,_,rfl,rfl,.inl (.inr ⟨by decide,by decide⟩),_,rfl,_,rfl,_,_,rfl,rfl,.inl (.inl ⟨by lia,by lia⟩),_,_,rfl,rfl,.inl (.inr ⟨by decide,by decide⟩),_,_,rfl,rfl,_,_,rfl,rfl,_,_,rfl,rfl,(by show (0:Int) < 2147483629; decide),q _ (Int.emod_nonneg _ (by decide))⟩
theorem sc_Lthird:FnScope ["_law_cell","_law_k"] ["_law_cell","_law_k"] (defScope s_Lthird):=⟨rfl,rfl,rfl,by decide +kernel,rfl,by decide +kernel,by decide +kernel⟩
theorem ok_Lthird {f:Addr} {fd:FuncData} (F:Fun K "_law_third" "_law_third" s_Lthird f fd) (T:Txt K mg) :FnOk P w K mg base CX0 1 f fd ["_law_cell","_law_k"] (sp_Lthird K):=by
 refine F.ok (k:=0) sc_Lthird (fun vs H Q E h=>?_) (fun cdv A outer s H vs Q E hr h=>?_)
 ·obtain ⟨c,k,rfl,_⟩:=h
  rfl
 ·obtain ⟨c,k,rfl,h0,h1,q⟩:=h
  refine ⟨_,(pss_one (ps_ret (pe_op op_mod (pe_op op_add (pe_op op_add (pe_op op_mulB (pe_op op_mod (pv 0) pe_int) pe_int) (pe_op op_mulB (pe_op op_mulB (pv 1) (pv 1)) pe_int)) pe_int) pe_int))),?_⟩
  try dsimp only [nox_K]
  exact ⟨_,rfl,_,_,rfl,rfl,(by show (0:Int) < 2147483587; decide),_,_,rfl,rfl,.inl (.inr ⟨by decide,by decide⟩),_,rfl,_,rfl,_,_,rfl,rfl,.inl (.inl ⟨by lia,by lia⟩),_,_,rfl,rfl,.inl (.inr ⟨by decide,by decide⟩),_,_,rfl,rfl,_,_,rfl,rfl,_,_,rfl,rfl,(by show (0:Int) < 2147483587; decide),q _ (Int.emod_nonneg _ (by decide))⟩
theorem sc_Lnumber:FnScope ["_law_cell"] ["_law_cell"] (defScope s_Lnumber):=⟨rfl,rfl,rfl,by decide +kernel,rfl,by decide +kernel,by decide +kernel⟩
theorem ok_Lnumber {f:Addr} {fd:FuncData} (F:Fun K "_law_number" "_law_number" s_Lnumber f fd) (T:Txt K mg) :FnOk P w K mg base CX0 1 f fd ["_law_cell"] (sp_Lnumber K):=by
 refine F.ok (k:=0) sc_Lnumber (fun vs H Q E h=>?_) (fun cdv A outer s H vs Q E hr h=>?_)
 ·obtain ⟨c,rfl,_⟩:=h
  rfl
 ·obtain ⟨c,rfl,hc,q⟩:=h
  refine ⟨_,(pss_one (ps_ret (pe_op op_sub (pe_op op_mod (pe_op op_mulB (pv 0) (pe_op op_add (pe_op op_pow pe_int pe_int) pe_int)) (pe_op op_sub (pe_op op_mulB pe_int (pe_op op_pow pe_int pe_int)) pe_int)) (pe_op op_sub (pe_op op_pow pe_int pe_int) pe_int)))),?_⟩
  try dsimp only [nox_K]
  exact ⟨_,rfl,_,_,rfl,rfl,⟨by decide,by decide,by decide⟩,_,_,rfl,rfl,_,_,rfl,rfl,.inr ⟨hc,(by show Builtin.Int.intBits (10 ^ 59 + 9)≤2 ^ 20; decide)⟩,_,_,rfl,rfl,⟨by decide,by decide,by decide⟩,_,_,rfl,rfl,.inl (.inl ⟨by decide,by decide⟩),_,_,rfl,rfl,_,_,rfl,rfl,(by show (0:Int) < 2 * 10 ^ 60 - 1; decide),_,_,rfl,rfl,⟨by decide,by decide,by decide⟩,_,_,rfl,rfl,_,_,rfl,rfl,q _⟩
theorem sc_Lplace:FnScope ["_law_deed_here"] ["_law_deed_here"] (defScope s_Lplace):=⟨rfl,rfl,rfl,by decide +kernel,rfl,by decide +kernel,by decide +kernel⟩
theorem ok_Lplace {f:Addr} {fd:FuncData} (F:Fun K "_law_place" "_law_place" s_Lplace f fd) (T:Txt K mg) :FnOk P w K mg base CX0 1 f fd ["_law_deed_here"] (sp_Lplace K):=by
 refine F.ok (k:=0) sc_Lplace (fun vs H Q E h=>?_) (fun cdv A outer s H vs Q E hr h=>?_)
 ·obtain ⟨p,d,rfl,_⟩:=h
  rfl
 ·obtain ⟨p,d,rfl,hS,hp,q⟩:=h
  refine ⟨_,(pss_cons (ps_if (pt_cmpR op_eq (pe_ix ix_tup (pv 0) pe_int (fun _ _=>rfl)) pe_str (nomark _))
   (pss_one (ps_ret (pe_ix ix_tup (pv 0) pe_int (fun _ _=>rfl))))
   pss_nil)
   (pss_one (ps_ret (pe_ix ix_tup (pv 0) pe_int (fun _ _=>rfl))))),?_⟩
  try dsimp only [nox_K]
  cases d with
  | put x n g=>exact ⟨_,rfl,p,_,_,_,rfl,rfl,hS,rfl,rfl,_,rfl,ifT (by decide +kernel) ⟨_,rfl,p,_,_,_,rfl,rfl,hS,rfl,q⟩⟩
  | get c x g=>exact ⟨_,rfl,p,_,_,_,rfl,rfl,hS,rfl,rfl,_,rfl,ifF (by decide +kernel) ⟨_,rfl,p,_,_,_,rfl,rfl,hS,rfl,q⟩⟩
  | swap c x n g=>exact ⟨_,rfl,p,_,_,_,rfl,rfl,hS,rfl,rfl,_,rfl,ifF (by decide +kernel) ⟨_,rfl,p,_,_,_,rfl,rfl,hS,rfl,q⟩⟩
  | fence g=>cases hp
  | bar g=>cases hp
theorem sc_Lsize:FnScope ["_law_script","_law_first"] ["_law_script"] (defScope s_Lsize):=⟨rfl,rfl,rfl,by decide +kernel,rfl,by decide +kernel,by decide +kernel⟩
theorem ok_Lsize {f:Addr} {fd:FuncData} (F:Fun K "_law_size" "_law_size" s_Lsize f fd) (T:Txt K mg) (h_Lcellat:Has P w K mg base 1 "_law_cell_at" ["_law_script","_law_k"] (sp_Lcellat K)):FnOk P w K mg base CX0 2 f fd ["_law_script"] (sp_Lsize K):=by
 refine F.ok (k:=1) sc_Lsize (fun vs H Q E h=>?_) (fun cdv A outer s H vs Q E hr h=>?_)
 ·obtain ⟨a,ns,rfl,_⟩:=h
  rfl
 ·obtain ⟨a,ns,rfl,hS,hn,q⟩:=h
  refine ⟨_,(pss_cons (ps_set (i:=1) sc_Lsize.nd rfl (Or.inl rfl) (pe_fn h_Lcellat (hr.mono (by decide)) (pa_cons (pv 0) (pa_cons pe_int pa_nil))))
   (pss_cons (ps_if (pt_cmpR op_eq (pe_op op_mod (pe_op op_fdiv (pv 1) pe_int) pe_int) pe_int (nomark _))
   (pss_one (ps_ret (pe_op op_add pe_int (pe_op op_mod (pe_op op_fdiv (pv 1) pe_int) pe_int))))
   pss_nil)
   (pss_cons (ps_if (pt_cmpR op_eq (pe_op op_mod (pe_op op_fdiv (pv 1) pe_int) pe_int) pe_int (nomark _))
   (pss_one (ps_ret (pe_callB (call_max2 rfl) rfl T.n_max bt_max (pa_cons pe_int (pa_cons (pe_callB (call_min2 rfl) rfl T.n_min bt_min (pa_cons pe_int (pa_cons (pe_op op_sub (pe_callB call_len_seq rfl T.n_len bt_len (pa_cons (pv 0) pa_nil)) pe_int) pa_nil))) pa_nil)))))
   pss_nil)
   (pss_one (ps_ret (pe_op op_mod (pe_op op_fdiv (pv 1) pe_int) pe_int)))))),?_⟩
  try dsimp only [nox_K]
  refine ⟨_,rfl,a,ns,0,rfl,hS,by decide,?_⟩
  generalize ns.getD (0:Int).toNat 0=c
  have m17:0≤c / 48 % 17∧c / 48 % 17 < 17:=⟨Int.emod_nonneg _ (by decide),Int.emod_lt_of_pos _ (by decide)⟩
  refine ⟨_,rfl,_,_,rfl,rfl,⟨by decide,by decide⟩,_,_,rfl,rfl,(by show (0:Int) < 8; decide),rfl,_,rfl,ite2 (fun c1=>?_) (fun c1=>?_)⟩
  ·exact ⟨_,rfl,_,_,rfl,rfl,⟨by decide,by decide⟩,_,_,rfl,rfl,(by show (0:Int) < 17; decide),_,_,rfl,rfl,q _ (by lia) (by lia)⟩
  ·refine ⟨_,rfl,_,_,rfl,rfl,⟨by decide,by decide⟩,_,_,rfl,rfl,(by show (0:Int) < 2; decide),rfl,_,rfl,ite2 (fun c2=>?_) (fun c2=>?_)⟩
   ·refine ⟨_,rfl,a,_,rfl,.inl hS,_,_,rfl,rfl,_,_,rfl,_,_,rfl,q _ ?_ ?_⟩
    ·rw [List.length_map]; split <;> split <;> lia
    ·rw [List.length_map]; split <;> split <;> lia
   ·exact ⟨_,rfl,_,_,rfl,rfl,⟨by decide,by decide⟩,_,_,rfl,rfl,(by show (0:Int) < 17; decide),q _ (by lia) (by lia)⟩
end
end Own
set_option Elab.async false
set_option linter.all false
set_option maxRecDepth 100000
set_option maxHeartbeats 4100000
namespace Own
open PySem L2
theorem pts_get {ds:List DD} {j:Nat} {x:DD} (h:ds[j]?=some x) (c:pt x.d=true):(ptsOf ds)[npts (ds.take j)]?=some x:=by
 have e:ptsOf ds=ptsOf (ds.take j) ++ ptsOf (ds.drop j):=by
  unfold ptsOf
  rw [← List.filter_append,List.take_append_drop]
 have hj:j < ds.length:=(List.getElem?_eq_some_iff.mp h).1
 have e2:ds.drop j=x :: ds.drop (j + 1):=by
  rw [List.drop_eq_getElem_cons hj]
  congr 1
  rw [List.getElem?_eq_getElem hj] at h
  exact Option.some.inj h
 unfold npts
 rw [e,List.getElem?_append_right (Nat.le_refl _),Nat.sub_self,e2]
 unfold ptsOf
 rw [List.filter_cons_of_pos (p:=fun x:DD=>pt x.d) c]
 rfl
theorem spot_place {d:Deed} {z:Str}:z∈spot d ↔ d.place=.str z:=by
 cases d with
 | put x n g=>exact ⟨fun h=>by rw [List.mem_singleton.mp h]; rfl,fun h=>by injection h with h; exact List.mem_singleton.mpr h.symm⟩
 | get c x g=>exact ⟨fun h=>by rw [List.mem_singleton.mp h]; rfl,fun h=>by injection h with h; exact List.mem_singleton.mpr h.symm⟩
 | swap c x n g=>exact ⟨fun h=>by rw [List.mem_singleton.mp h]; rfl,fun h=>by injection h with h; exact List.mem_singleton.mpr h.symm⟩
 | fence g=>exact ⟨fun h=>(nomatch h),fun h=>(nomatch h)⟩
 | bar g=>exact ⟨fun h=>(nomatch h),fun h=>(nomatch h)⟩
theorem pt_place {d:Deed} {z:Str} (h:d.place=.str z):pt d=true:=by
 cases d with
 | put x n g=>rfl
 | get c x g=>rfl
 | swap c x n g=>rfl
 | fence g=>cases h
 | bar g=>cases h
theorem uniq_done {D:Done} (nd:(D.map (·.1)).Nodup) {z:Z2} {x y:DD} (h1:(z,x)∈D) (h2:(z,y)∈D):x=y:=by
 obtain ⟨i,e1⟩:=List.getElem?_of_mem h1
 obtain ⟨j,e2⟩:=List.getElem?_of_mem h2
 have a1:(D.map (·.1))[i]?=some z:=by rw [List.getElem?_map,e1]; rfl
 have a2:(D.map (·.1))[j]?=some z:=by rw [List.getElem?_map,e2]; rfl
 have b1:=List.getElem?_eq_some_iff.mp a1
 have b2:=List.getElem?_eq_some_iff.mp a2
 have:i=j:=(List.getElem_inj nd).mp (b1.2.trans b2.2.symm)
 subst this
 rw [e1] at e2
 cases e2
 rfl
theorem src_mem {fs:List FR} {z:Z2} (h:z∈fs.map (·.z)):∃ f∈fs,f.z=z∧srcOf fs z=some f.o:=by
 unfold srcOf
 cases e:fs.find? fun f=>decide (f.z=z) with
 | none =>
  obtain ⟨f,hf,ez⟩:=List.mem_map.mp h
  have:=List.find?_eq_none.mp e f hf
  exact absurd (decide_eq_true ez) this
 | some f=>exact ⟨f,List.mem_of_find?_eq_some e,(by have:=List.find?_some e; simpa using this),rfl⟩
theorem step_free {num:Z2→Int} {z:Z2} {x:DD} {s:WS} (g:x.g=none):(stepW num z x s).done=if pt x.d=true then s.done ++ [(z,x)] else s.done:=by
 unfold stepW
 rw [if_pos (by unfold holdsG; rw [g])]
 split <;> rfl
theorem isTo_get {pl:Str} {z:Z2} {x:DD} (h:wordOf x.d="get"):isTo pl (z,x)=false:=by
 obtain ⟨a,d,g⟩:=x
 cases d with
 | put y n g=>exact absurd h (by show ¬ (("put":Str)="get"); decide +kernel)
 | get c y g=>rfl
 | swap c y n g=>exact absurd h (by show ¬ (("swap":Str)="get"); decide +kernel)
 | fence g=>rfl
 | bar g=>rfl
theorem writes_of {d:Deed} (hp:pt d=true) (h:¬ wordOf d="get"):d.writes=true:=by
 cases d with
 | put y n g=>rfl
 | get c y g=>exact absurd rfl h
 | swap c y n g=>rfl
 | fence g=>cases hp
 | bar g=>cases hp
theorem reads_of {d:Deed} (hp:pt d=true) (h:¬ wordOf d="put"):d.reads=true:=by
 cases d with
 | put y n g=>exact absurd rfl h
 | get c y g=>rfl
 | swap c y n g=>rfl
 | fence g=>cases hp
 | bar g=>cases hp
theorem reads_no {d:Deed} (h:wordOf d="put"):d.reads=false:=by
 cases d with
 | put y n g=>rfl
 | get c y g=>exact absurd h (by show ¬ (("get":Str)="put"); decide +kernel)
 | swap c y n g=>exact absurd h (by show ¬ (("swap":Str)="put"); decide +kernel)
 | fence g=>rfl
 | bar g=>rfl
theorem readers_snoc (D:Done) (z:Z2) (x:DD):readersOf (D ++ [(z,x)])=readersOf D ++ (if x.d.reads=true then [z] else []):=by
 unfold readersOf
 rw [List.filter_append,List.map_append]
 congr 1
 by_cases c:x.d.reads=true
 ·rw [if_pos c]; simp [c]
 ·rw [if_neg c]; simp [c]
theorem SrcV.lset {K:PySem.W.Frag} {H:Hp} {l:Addr} {xs ys:List V} {v:V} {o:Option Z2} (hl:H l=some (.lst xs)) (h:SrcV K H v o):SrcV K (upd H l (.lst ys)) v o:=by
 cases o with
 | none=>exact h
 | some z=>obtain ⟨t,e,h⟩:=h; exact ⟨t,e,SqT.lset hl h⟩
theorem ins_perm (zs:List Z2) (n:Nat) (z:Z2):(zs.take n ++ z :: zs.drop n).Perm (zs ++ [z]):=by
 have h1:(zs.take n ++ z :: zs.drop n).Perm (z :: (zs.take n ++ zs.drop n)):=List.perm_middle
 rw [List.take_append_drop] at h1
 exact h1.trans (List.perm_append_singleton z zs).symm
theorem PtsAt.ins {H:Hp} {ps:List TK} {zs:List Z2} (h:PtsAt H ps zs) (n:Nat) {t:Addr} {z:Z2} (ht:H t=some (.tup ((pk z).map kV))):PtsAt H (ps.take n ++ (t,pk z) :: ps.drop n) (zs.take n ++ z :: zs.drop n):=by
 refine ⟨?_,fun q hq=>?_⟩
 ·rw [List.map_append,List.map_cons,List.map_append,List.map_cons,List.map_take,List.map_drop,h.eq,List.map_take,List.map_drop]
 ·rcases List.mem_append.mp hq with hq | hq
  ·exact h.at_ q (List.mem_of_mem_take hq)
  ·rcases List.mem_cons.mp hq with rfl | hq
   ·exact ht
   ·exact h.at_ q (List.mem_of_mem_drop hq)
theorem PtsAt.get {H:Hp} {ps:List TK} {zs:List Z2} (h:PtsAt H ps zs) {i:Nat} {q:TK} (e:ps[i]?=some q):∃ z,zs[i]?=some z∧q.2=pk z∧H q.1=some (.tup [.int z.1,.int z.2]):=by
 have e1:(ps.map (·.2))[i]?=some q.2:=by rw [List.getElem?_map,e]; rfl
 rw [h.eq,List.getElem?_map] at e1
 cases ez:zs[i]? with
 | none=>rw [ez] at e1; cases e1
 | some z =>
  rw [ez] at e1
  have e2:pk z=q.2:=Option.some.inj e1
  refine ⟨z,rfl,e2.symm,?_⟩
  have:=h.at_ q (List.mem_of_getElem? e)
  rw [← e2] at this
  exact this
noncomputable def handAll (h:Nat) (ds:List DD):Nat→Done
 | 0=>[]
 | j + 1=>match ds[j]? with
  | some x=>if pt x.d=true then handAll h ds j ++ [(ptAt h ds j,x)] else handAll h ds j
  | none=>handAll h ds j
theorem handAll_succ {h:Nat} {ds:List DD} {j:Nat} {x:DD} (e:ds[j]?=some x):handAll h ds (j + 1)=if pt x.d=true then handAll h ds j ++ [(ptAt h ds j,x)] else handAll h ds j:=by
 show (match ds[j]? with | some x=>if pt x.d=true then handAll h ds j ++ [(ptAt h ds j,x)] else handAll h ds j | none=>handAll h ds j)=_
 rw [e]
theorem handAll_none {h:Nat} {ds:List DD} {j:Nat} (e:ds[j]?=none):handAll h ds (j + 1)=handAll h ds j:=by
 show (match ds[j]? with | some x=>if pt x.d=true then handAll h ds j ++ [(ptAt h ds j,x)] else handAll h ds j | none=>handAll h ds j)=_
 rw [e]
theorem handW_none {num:Z2→Int} {h:Nat} {ds:List DD} {i:Nat} {s:WS} (e:ds[i]?=none):handW num h ds (i + 1) s=handW num h ds i s:=by
 show (match ds[i]? with | some x=>stepW num (ptAt h ds i) x (handW num h ds i s) | none=>handW num h ds i s)=_
 rw [e]
noncomputable def progAll (hs:Hands):Nat→Done
 | 0=>[]
 | i + 1=>progAll hs i ++ handAll i (handAt hs i) (handAt hs i).length
theorem handAll_rising {D:Done} {h:Nat} (ds:List DD) (r:Rising h 0 D):∀ i,Rising h (npts (ds.take i)) (D ++ handAll h ds i)
 | 0=>by rw [show D ++ handAll h ds 0=D from List.append_nil D]; exact r
 | i + 1=>by
  have ih:=handAll_rising ds r i
  cases e:ds[i]? with
  | none =>
   have e2:ds.take (i + 1)=ds.take i:=by rw [List.take_add_one,e]; simp
   rw [handAll_none e,e2]; exact ih
  | some x =>
   rw [handAll_succ e,npts_succ e]
   by_cases c:pt x.d=true
   ·rw [if_pos c,if_pos c,← List.append_assoc]; exact ih.put c
   ·rw [if_neg c,if_neg c]; exact ih
theorem progAll_rising (hs:Hands):∀ i,Rising i 0 (progAll hs i)
 | 0=>⟨List.Pairwise.nil,fun q hq=>(nomatch hq),fun q hq=>(nomatch hq)⟩
 | i + 1=>(handAll_rising (handAt hs i) (progAll_rising hs i) _).next
theorem handAll_at {h:Nat} {ds:List DD} {q:Z2×DD}:∀ {i:Nat},q∈handAll h ds i→∃ j,ds[j]?=some q.2∧q.1=ptAt h ds j∧pt q.2.d=true
 | 0,hq=>nomatch hq
 | i + 1,hq=>by
  cases e:ds[i]? with
  | none=>rw [handAll_none e] at hq; exact handAll_at hq
  | some x =>
   rw [handAll_succ e] at hq
   by_cases c:pt x.d=true
   ·rw [if_pos c] at hq
    rcases List.mem_append.mp hq with hq | hq
    ·exact handAll_at hq
    ·rw [List.mem_singleton.mp hq]; exact ⟨i,e,rfl,c⟩
   ·rw [if_neg c] at hq; exact handAll_at hq
theorem handAll_sub {h:Nat} {ds:List DD} {i:Nat}:∀ d,∀ q∈handAll h ds i,q∈handAll h ds (i + d)
 | 0,q,hq=>hq
 | d + 1,q,hq=>by
  have:=handAll_sub d q hq
  cases e:ds[i + d]? with
  | none=>rw [show i + (d + 1)=i + d + 1 from rfl,handAll_none e]; exact this
  | some x =>
   rw [show i + (d + 1)=i + d + 1 from rfl,handAll_succ e]
   split
   ·exact List.mem_append_left _ this
   ·exact this
theorem handAll_mem {h:Nat} {ds:List DD} {j:Nat} {x:DD} (e:ds[j]?=some x) (c:pt x.d=true):(ptAt h ds j,x)∈handAll h ds ds.length:=by
 have hj:j + 1≤ds.length:=(List.getElem?_eq_some_iff.mp e).1
 obtain ⟨d,hd⟩:∃ d,ds.length=(j + 1) + d:=⟨ds.length - (j + 1),by lia⟩
 rw [hd]
 refine handAll_sub d _ ?_
 rw [handAll_succ e,if_pos c]
 exact List.mem_append_right _ (List.mem_singleton.mpr rfl)
theorem progAll_dd {hs:Hands} {q:Z2×DD}:∀ {i:Nat},i≤hs.length→q∈progAll hs i→ddAt hs q.1=some q.2
 | 0,_,hq=>nomatch hq
 | i + 1,hi,hq=>by
  rcases List.mem_append.mp hq with h | h
  ·exact progAll_dd (by lia) h
  ·obtain ⟨j,e1,e2,c⟩:=handAll_at h
   rw [e2]
   unfold ddAt ptAt
   rw [if_neg (by show ¬ ((i:Int) < 0∨(npts ((handAt hs i).take j):Int) < 0∨(hs.length:Int)≤(i:Int)); lia)]
   show (ptsOf (handAt hs (i:Int).toNat))[(npts ((handAt hs i).take j):Int).toNat]?=_
   rw [Int.toNat_natCast,Int.toNat_natCast]
   exact pts_get e1 c
theorem handW_in {num:Z2→Int} {h:Nat} {ds:List DD} {s:WS} {q:Z2×DD}:∀ {i:Nat},q∈(handW num h ds i s).done→q∈s.done∨q∈handAll h ds i
 | 0,hq=>.inl hq
 | i + 1,hq=>by
  cases e:ds[i]? with
  | none=>rw [handW_none e] at hq; rw [handAll_none e]; exact handW_in hq
  | some x =>
   rw [handW_succ e] at hq
   rw [handAll_succ e]
   rcases step_done num (ptAt h ds i) x (handW num h ds i s) with e3 | ⟨e3,c⟩
   ·rw [e3] at hq
    rcases handW_in hq with h1 | h1
    ·exact .inl h1
    ·right; split
     ·exact List.mem_append_left _ h1
     ·exact h1
   ·rw [e3] at hq
    rw [if_pos c]
    rcases List.mem_append.mp hq with hq | hq
    ·rcases handW_in hq with h1 | h1
     ·exact .inl h1
     ·exact .inr (List.mem_append_left _ h1)
    ·exact .inr (List.mem_append_right _ hq)
theorem progW_in {num:Z2→Int} {hs:Hands} {q:Z2×DD}:∀ {i:Nat},q∈(progW num hs i).done→q∈progAll hs i
 | 0,hq=>nomatch hq
 | i + 1,hq=>by
  rcases handW_in (s:=⟨(progW num hs i).done,(progW num hs i).stops,[]⟩) hq with h | h
  ·exact List.mem_append_left _ (progW_in h)
  ·exact List.mem_append_right _ h
theorem free_done {num:Z2→Int} {hs:Hands} {q:Z2×DD} (g:q.2.g=none):∀ {i:Nat},q∈progAll hs i→q∈(progW num hs i).done
 | 0,hq=>nomatch hq
 | i + 1,hq=>by
  rcases List.mem_append.mp hq with h | h
  ·exact handW_sub num i (handAt hs i) ⟨(progW num hs i).done,(progW num hs i).stops,[]⟩ (Nat.zero_le _) q (free_done g h)
  ·obtain ⟨j,e1,e2,c⟩:=handAll_at h
   refine handW_sub num i (handAt hs i) ⟨(progW num hs i).done,(progW num hs i).stops,[]⟩ (show j + 1≤(handAt hs i).length from (List.getElem?_eq_some_iff.mp e1).1) _ ?_
   rw [handW_succ e1,step_free g,if_pos c]
   refine List.mem_append_right _ (List.mem_singleton.mpr ?_)
   rw [← e2]
theorem spots_all {hs:Hands} (z:Str):∀ i,z∈spotsTo hs i ↔ ∃ q∈progAll hs i,q.2.d.place=.str z
 | 0=>⟨fun h=>(nomatch h),fun ⟨q,h,_⟩=>(nomatch h)⟩
 | i + 1=>by
  show z∈spotsTo hs i ++ (handAt hs i).flatMap (fun x=>spot x.d) ↔ _
  rw [List.mem_append,spots_all z i,List.mem_flatMap]
  constructor
  ·rintro (⟨q,hq,e⟩ | ⟨x,hx,hz⟩)
   ·exact ⟨q,List.mem_append_left _ hq,e⟩
   ·obtain ⟨j,ej⟩:=List.getElem?_of_mem hx
    have e:=spot_place.mp hz
    exact ⟨(ptAt i (handAt hs i) j,x),List.mem_append_right _ (handAll_mem ej (pt_place e)),e⟩
  ·rintro ⟨q,hq,e⟩
   rcases List.mem_append.mp hq with h | h
   ·exact .inl ⟨q,h,e⟩
   ·obtain ⟨j,e1,_,_⟩:=handAll_at h
    exact .inr ⟨q.2,List.mem_of_getElem? e1,spot_place.mpr e⟩
theorem handAll_len {h:Nat} {ds:List DD}:∀ i,(handAll h ds i).length≤i
 | 0=>Nat.le_refl _
 | i + 1=>by
  have ih:=handAll_len (h:=h) (ds:=ds) i
  cases e:ds[i]? with
  | none=>rw [handAll_none e]; lia
  | some x =>
   rw [handAll_succ e]
   split
   ·rw [List.length_append]; show _ + 1≤_; lia
   ·lia
theorem sum_take {hs:Hands} {i:Nat} (hi:i < hs.length):((hs.take (i + 1)).map fun h=>h.2.length).sum=((hs.take i).map fun h=>h.2.length).sum + (handAt hs i).length:=by
 have hx:hs[i]?=some hs[i]:=List.getElem?_eq_getElem hi
 rw [List.take_add_one,hx,List.map_append,List.sum_append,handAt_of hx]
 simp
theorem progAll_sum (hs:Hands):∀ i,i≤hs.length→(progAll hs i).length≤((hs.take i).map fun h=>h.2.length).sum
 | 0,_=>Nat.le_refl _
 | i + 1,hi=>by
  have ih:=progAll_sum hs i (by lia)
  have h4:=handAll_len (h:=i) (ds:=handAt hs i) (handAt hs i).length
  rw [sum_take (by lia)]
  show (progAll hs i ++ handAll i (handAt hs i) (handAt hs i).length).length≤_
  rw [List.length_append]
  lia
theorem all40 {hs:Hands} (h:(hs.map fun h=>h.2.length).sum≤40):(progAll hs hs.length).length≤40:=by
 have:=progAll_sum hs hs.length (Nat.le_refl _)
 rw [List.take_of_length_le (Nat.le_refl _)] at this
 lia
theorem step_congr {num num':Z2→Int} {z:Z2} {x:DD} {s:WS} (e:x.d.reads=true→holdsG x.g s.has=true→num z=num' z):stepW num z x s=stepW num' z x s:=by
 unfold stepW
 by_cases c:holdsG x.g s.has=true
 ·rw [if_pos c,if_pos c]
  by_cases c2:pt x.d=true
  ·rw [if_pos c2,if_pos c2]
   by_cases c3:x.d.reads=true
   ·rw [e c3 c]
   ·have c3':x.d.reads=false:=by simpa using c3
    rw [hasPut_no c3',hasPut_no c3']
  ·rw [if_neg c2,if_neg c2]
 ·rw [if_neg c,if_neg c]
theorem reads_pt {d:Deed} (h:d.reads=true):pt d=true:=by unfold pt; rw [h,Bool.or_true]
theorem step_put {num:Z2→Int} {z:Z2} {x:DD} {s:WS} (h:holdsG x.g s.has=true) (c:pt x.d=true):(stepW num z x s).done=s.done ++ [(z,x)]:=by
 unfold stepW; rw [if_pos h,if_pos c]
theorem handW_congr {num num':Z2→Int} {h:Nat} {ds:List DD} {s:WS}:∀ {i:Nat},(∀ q∈(handW num h ds i s).done,q.2.d.reads=true→num q.1=num' q.1)→handW num h ds i s=handW num' h ds i s
 | 0,_=>rfl
 | i + 1,e=>by
  have ih:=handW_congr (i:=i) fun q hq=>e q (handW_sub num h ds s (Nat.le_succ i) q hq)
  cases ex:ds[i]? with
  | none=>rw [handW_none ex,handW_none ex,ih]
  | some x =>
   rw [handW_succ ex,handW_succ ex,← ih]
   refine step_congr fun hr hh=>?_
   refine e (ptAt h ds i,x) ?_ hr
   rw [handW_succ ex,step_put hh (reads_pt hr)]
   exact List.mem_append_right _ (List.mem_singleton.mpr rfl)
theorem progW_congr {num num':Z2→Int} {hs:Hands}:∀ {i:Nat},(∀ q∈(progW num hs i).done,q.2.d.reads=true→num q.1=num' q.1)→progW num hs i=progW num' hs i
 | 0,_=>rfl
 | i + 1,e=>by
  have ih:=progW_congr (i:=i) fun q hq=>e q (progW_sub num hs (Nat.le_succ i) q hq)
  have h2:=handW_congr (num:=num) (num':=num') (h:=i) (ds:=handAt hs i) (s:=⟨(progW num hs i).done,(progW num hs i).stops,[]⟩) (i:=(handAt hs i).length) e
  show (⟨(handW num i (handAt hs i) (handAt hs i).length ⟨(progW num hs i).done,(progW num hs i).stops,[]⟩).done,(handW num i (handAt hs i) (handAt hs i).length ⟨(progW num hs i).done,(progW num hs i).stops,[]⟩).stops,(progW num hs i).filled ++ [(handW num i (handAt hs i) (handAt hs i).length ⟨(progW num hs i).done,(progW num hs i).stops,[]⟩).has]⟩:PW3)=⟨(handW num' i (handAt hs i) (handAt hs i).length ⟨(progW num' hs i).done,(progW num' hs i).stops,[]⟩).done,(handW num' i (handAt hs i) (handAt hs i).length ⟨(progW num' hs i).done,(progW num' hs i).stops,[]⟩).stops,(progW num' hs i).filled ++ [(handW num' i (handAt hs i) (handAt hs i).length ⟨(progW num' hs i).done,(progW num' hs i).stops,[]⟩).has]⟩
  rw [h2,ih]
structure SrcOk (hs:Hands) (D:Done) (num:Z2→Int) (f:FR):Prop where
 n:num f.z=numAt hs f.o
 o:∀ y,f.o=some y→y≠f.z∧Ex_3_6 (fun (e x:DD) (pl:Str)=>(y,e)∈progAll hs hs.length) (fun e x pl=>e.d.writes=true) (fun e x pl=>e.d.place=.str pl) (fun e x pl=>(f.z,x)∈progAll hs hs.length) (fun e x pl=>x.d.place=.str pl) (fun e x pl=>(e.g=none∨y∈D.map (·.1)))
noncomputable def inD (D:Done) (q:Z2×DD):Bool:=decide (q.1∈D.map (·.1))
theorem gone_fits {hs:Hands} {num:Z2→Int} {fs:List FR} {ls:List LN} {us:List Str} (hrd:fs.map (·.z)=readersOf (progW num hs hs.length).done) (hs_:∀ f∈fs,SrcOk hs (progW num hs hs.length).done num f)
  (hu:∀ z,z∈us ↔ ∃ q∈progAll hs hs.length,q.2.d.place=.str z) (hr:RisingT us) (hl:ls.map (·.pl)=us) (hz:∀ y∈ls,y.zs.Perm ((((progAll hs hs.length).filter (isTo y.pl)).filter (inD (progW num hs hs.length).done)).map (·.1))) :
  Fits hs fs ls∧walkOf hs fs=progW num hs hs.length:=by
 have eW:progW num hs hs.length=walkOf hs fs:=progW_congr fun q hq hr=>by
  have:q.1∈fs.map (·.z):=by
   rw [hrd]
   exact List.mem_map.mpr ⟨q,List.mem_filter.mpr ⟨hq,hr⟩,rfl⟩
  obtain ⟨f,hf,e1,e2⟩:=src_mem this
  unfold numBy
  rw [e2,← e1]
  exact (hs_ f hf).n
 have ndA:((progAll hs hs.length).map (·.1)).Nodup:=(progAll_rising hs hs.length).nodup
 have rD:=progW_rising num hs hs.length
 have ndD:=rD.nodup
 have inA:∀ q∈(progW num hs hs.length).done,q∈progAll hs hs.length:=fun q hq=>progW_in hq
 generalize hD:(progW num hs hs.length).done=D at *
 have eD:(walkOf hs fs).done=D:=by rw [← eW,hD]
 have done_of:∀ {y:Z2} {e:DD},(y,e)∈progAll hs hs.length→(e.g=none∨y∈D.map (·.1))→(y,e)∈D:=fun {y e} h1 h2=>by
  rcases h2 with h2 | h2
  ·rw [← hD]; exact free_done h2 h1
  ·obtain ⟨q,hq,e2⟩:=List.mem_map.mp h2
   obtain ⟨z,x⟩:=q
   cases e2
   rw [uniq_done ndA h1 (inA _ hq)]
   exact hq
 refine ⟨⟨fun q hq hrd'=>?_,by rw [eD]; exact hrd,fun f hf x hx y hy=>?_,fun us' hr' hm=>?_,fun x hx=>?_⟩,eW.symm⟩
 ·have hqD:q∈D:=by rw [← eD]; exact hq
  have:q.1∈fs.map (·.z):=by
   rw [hrd]
   exact List.mem_map.mpr ⟨q,List.mem_filter.mpr ⟨hqD,hrd'⟩,rfl⟩
  obtain ⟨f,hf,_,e⟩:=src_mem this
  refine ⟨f.o,e,fun y hy=>?_⟩
  obtain ⟨_,e,x,pl,h1,h2,_⟩:=(hs_ f hf).o y hy
  unfold writeAt
  rw [progAll_dd (Nat.le_refl _) h1]
  exact h2
 ·rw [eD] at hx ⊢
  obtain ⟨h0,e,x',pl,h1,h2,h3,h4,h5,h6⟩:=(hs_ f hf).o y hy
  rw [uniq_done ndA (inA _ hx) h4]
  refine ⟨h0,pl,h5,?_⟩
  unfold writersTo
  refine List.mem_map.mpr ⟨(y,e),List.mem_filter.mpr ⟨done_of h1 h6,?_⟩,rfl⟩
  unfold isTo
  rw [h2,h3]
  simp
 ·rw [hl]
  refine rising_one hr hr' fun z=>?_
  rw [hu z,hm z,spots_all z]
 ·refine (hz x hx).trans ?_
  rw [eD]
  refine (List.perm_ext_iff_of_nodup ?_ ?_).mpr fun z=>?_
  ·exact ndA.sublist ((List.filter_sublist.trans List.filter_sublist).map _)
  ·unfold writersTo
   exact ndD.sublist (List.filter_sublist.map _)
  ·unfold writersTo
   rw [List.mem_map,List.mem_map]
   constructor
   ·rintro ⟨q,hq,rfl⟩
    obtain ⟨h1,h2⟩:=List.mem_filter.mp hq
    obtain ⟨h3,h4⟩:=List.mem_filter.mp h1
    exact ⟨q,List.mem_filter.mpr ⟨done_of (y:=q.1) (e:=q.2) h3 (.inr (of_decide_eq_true h2)),h4⟩,rfl⟩
   ·rintro ⟨q,hq,rfl⟩
    obtain ⟨h1,h2⟩:=List.mem_filter.mp hq
    exact ⟨q,List.mem_filter.mpr ⟨List.mem_filter.mpr ⟨inA q h1,h2⟩,decide_eq_true (List.mem_map.mpr ⟨q,h1,rfl⟩)⟩,rfl⟩
end Own
set_option Elab.async false
set_option linter.all false
set_option maxRecDepth 100000
set_option maxHeartbeats 4100000
namespace Own
open PySem L2
theorem at_lastV {α:Type} (xs:List α) (v:α):atI (xs ++ [v]) (-1)=some v:=by
 have e:ixN (xs ++ [v]).length (-1)=some xs.length:=by
  unfold ixN
  rw [if_neg (by decide),if_pos (by rw [List.length_append]; show -((xs.length + 1:Nat):Int)≤-1; lia)]
  congr 1
  rw [List.length_append]
  show ((-1:Int) + ((xs.length + 1:Nat):Int)).toNat=xs.length
  lia
 unfold atI
 rw [e]
 show (xs ++ [v])[xs.length]?=some v
 rw [List.getElem?_append_right (Nat.le_refl _),Nat.sub_self]
 rfl
theorem writers_write {num:Z2→Int} {hs:Hands} {pl:Str} {z:Z2} (h:z∈writersTo (progW num hs hs.length).done pl):writeAt hs z=true:=by
 unfold writersTo at h
 obtain ⟨q,hq,rfl⟩:=List.mem_map.mp h
 obtain ⟨h1,h2⟩:=List.mem_filter.mp hq
 unfold writeAt
 rw [progAll_dd (Nat.le_refl _) (progW_in h1)]
 unfold isTo at h2
 rw [Bool.and_eq_true] at h2
 exact h2.1
noncomputable abbrev CN:=Str×Int
structure PrAt (H:Hp) (ts:List Addr) (cs:List CN):Prop where
 len:ts.length=cs.length
 at_:∀ (i:Nat) (t:Addr) (c:CN),ts[i]?=some t→cs[i]?=some c→H t=some (.tup [.str c.1,.int c.2])
section
variable {H H':Hp} {ts:List Addr} {cs:List CN}
theorem PrAt.nil:PrAt H [] []:=⟨rfl,fun i t c e=>by simp at e⟩
theorem PrAt.same (s:Same H H') (h:PrAt H ts cs):PrAt H' ts cs:=⟨h.len,fun i t c a b=>s _ _ (h.at_ i t c a b)⟩
theorem PrAt.lset {l:Addr} {xs ys:List V} (hl:H l=some (.lst xs)) (h:PrAt H ts cs):PrAt (upd H l (.lst ys)) ts cs:=⟨h.len,fun i t c a b=>by
 have:=h.at_ i t c a b
 rw [upd_ne (ne_of this hl (by intro z; cases z))]
 exact this⟩
theorem PrAt.snoc {t:Addr} {c:CN} (h:PrAt H ts cs) (ht:H t=some (.tup [.str c.1,.int c.2])):PrAt H (ts ++ [t]) (cs ++ [c]):=by
 refine ⟨by rw [List.length_append,List.length_append,h.len]; rfl,fun i q z a b=>?_⟩
 by_cases hi:i < ts.length
 ·rw [List.getElem?_append_left hi] at a
  rw [List.getElem?_append_left (by rw [← h.len]; exact hi)] at b
  exact h.at_ i q z a b
 ·rw [List.getElem?_append_right (by lia)] at a
  rw [List.getElem?_append_right (by rw [← h.len]; lia),← h.len] at b
  have e:i - ts.length=0:=by
   have:=(List.getElem?_eq_some_iff.mp a).1
   rw [List.length_cons,List.length_nil] at this
   lia
  rw [e] at a b
  cases a
  cases b
  exact ht
end
noncomputable def numV (kvs:List (Key×V)) (c:Str):Int:=match thereV kvs c with
 | .int n=>n
 | _=>0
theorem there_num {kvs:List (Key×V)} (h:Ints kvs) (c:Str):thereV kvs c=.int (numV kvs c):=by
 obtain ⟨n,e⟩:=there_int h c
 unfold numV
 rw [e]
theorem hasPut_ints {d:Deed} {kvs:List (Key×V)} (n:Int) (h:Ints kvs):Ints (hasPut d kvs n):=by
 cases d <;> first | exact h | exact h.put _ _
theorem step_ints {num:Z2→Int} {z:Z2} {x:DD} {s:WS} (h:Ints s.has):Ints (stepW num z x s).has:=by
 unfold stepW
 split
 ·split
  ·exact hasPut_ints _ h
  ·exact h
 ·exact h
theorem handW_ints {num:Z2→Int} {h:Nat} {ds:List DD} {s:WS} (hs:Ints s.has):∀ i,Ints (handW num h ds i s).has
 | 0=>hs
 | i + 1=>by
  unfold handW
  cases ds[i]? with
  | none=>exact handW_ints hs i
  | some x=>exact step_ints (handW_ints hs i)
theorem progW_ints (num:Z2→Int) (hs:Hands):∀ i,∀ c∈(progW num hs i).filled,Ints c
 | 0,c,h=>nomatch h
 | i + 1,c,h=>by
  have h:c∈(progW num hs i).filled ++ [(handW num i (handAt hs i) (handAt hs i).length ⟨(progW num hs i).done,(progW num hs i).stops,[]⟩).has]:=h
  rcases List.mem_append.mp h with h | h
  ·exact progW_ints num hs i c h
  ·rw [List.mem_singleton.mp h]
   exact handW_ints Ints.nil _
noncomputable def CupsOf (ds:List DD) (us:List Str):Prop:=RisingT us∧∀ z,z∈us ↔ ∃ x∈ds,z∈fill x.d∨z∈asks x
noncomputable def lastN (hs:Hands) (x:LN):CN:=(x.pl,numAt hs x.zs.getLast?)
structure OutAt (H:Hp) (r:Addr) (hs:Hands) (fl:List (List (Key×V))) (ls:List LN):Prop where
 a:∃ (a b:Addr) (as bs:List Addr),H r=some (.tup [.ref a,.ref b])∧H a=some (.tup (as.map V.ref))∧as.length=fl.length∧H b=some (.tup (bs.map V.ref))∧PrAt H bs (ls.map (lastN hs)) ∧
  ∀ (i:Nat) (t:Addr) (c:List (Key×V)),as[i]?=some t→fl[i]?=some c→Ex_2_3 (fun (us:List Str) (ts:List Addr)=>H t=some (.tup (ts.map V.ref))) (fun us ts=>CupsOf (handAt hs i) us) (fun us ts=>PrAt H ts (us.map fun u=>(u,numV c u)))
inductive Sp_cups (K:PySem.W.Frag) (vs:List V) (H:Hp) (Q:VK) (E_:XK):Prop
 | mk (p:Addr) (hs:Hands) (S:List Str) (C:List Str) (j:Nat) (hd:Addr×List DD) (h0_:vs=[.ref p,.int j]) (h1_:IsProg K H p hs) (h2_:Good S C hs) (h3_:hs[j]?=some hd) (h4_:∀ l us H',Same H H'→H' l=some (.lst (us.map V.str))→RisingT us→(∀ z,z∈us ↔ ∃ x∈hd.2,z∈fill x.d∨z∈asks x)→us.length≤80→Q (.ref l) H'):Sp_cups K vs H Q E_
noncomputable def sp_cups (K:PySem.W.Frag):Sp:=Sp_cups K
inductive Sp_cupswith (K:PySem.W.Frag) (vs:List V) (H:Hp) (Q:VK) (E_:XK):Prop
 | mk (p:Addr) (d:Addr) (hs:Hands) (S:List Str) (C:List Str) (j:Nat) (hd:Addr×List DD) (kvs:List (Key×V)) (h0_:vs=[.ref p,.int j,.ref d]) (h1_:IsProg K H p hs) (h2_:Good S C hs) (h3_:hs[j]?=some hd) (h4_:H d=some (.dK kvs)) (h5_:Ints kvs) (h6_:∀ (t:Addr) (us:List Str) (ts:List Addr) (H':Hp),Same H H'→H' t=some (.tup (ts.map V.ref))→CupsOf hd.2 us→PrAt H' ts (us.map fun u=>(u,numV kvs u))→Q (.ref t) H'):Sp_cupswith K vs H Q E_
noncomputable def sp_cupswith (K:PySem.W.Frag):Sp:=Sp_cupswith K
inductive Sp_lastof (K:PySem.W.Frag) (vs:List V) (H:Hp) (Q:VK) (E_:XK):Prop
 | mk (l:Addr) (ps:List TK) (zs:List Z2) (h0_:vs=[.ref l]) (h1_:TKs K H l ps) (h2_:ps.map (·.2)=zs.map pk) (h3_:∀ (sv:V) (H':Hp),Same H H'→SrcV K H' sv zs.getLast?→Q sv H'):Sp_lastof K vs H Q E_
noncomputable def sp_lastof (K:PySem.W.Frag):Sp:=Sp_lastof K
noncomputable def lineK (ls:List LN):List (Key×V):=ls.map fun x=>(Sum.inr x.pl,.ref x.l)
structure LinesIn (K:PySem.W.Frag) (H:Hp) (hs:Hands) (d:Addr) (ls:List LN):Prop where
 d:H d=some (.dK (lineK ls))
 q:∀ x∈ls,TKs K H x.l x.ps∧x.ps.map (·.2)=x.zs.map pk
 nd:(ls.map (·.pl)).Nodup
 pl:∀ us,RisingT us→(∀ z,z∈us ↔ z∈spotsTo hs hs.length)→ls.map (·.pl)=us
 wr:∀ x∈ls,∀ z∈x.zs,writeAt hs z=true
 n:ls.length≤240
theorem LinesIn.same {K:PySem.W.Frag} {H H':Hp} {hs:Hands} {d:Addr} {ls:List LN} (s:Same H H') (h:LinesIn K H hs d ls):LinesIn K H' hs d ls:=⟨s _ _ h.d,fun x hx=>⟨tks_same s (h.q x hx).1,(h.q x hx).2⟩,h.nd,h.pl,h.wr,h.n⟩
theorem val_line:∀ {ls:List LN} {x:LN},(ls.map (·.pl)).Nodup→x∈ls→valV (lineK ls) (Sum.inr x.pl:Key)=some (.ref x.l)
 | [],_,_,h=>(List.not_mem_nil h).elim
 | r :: ls,x,nd,h=>by
  rw [List.map_cons,List.nodup_cons] at nd
  unfold lineK
  rw [List.map_cons]
  rcases List.mem_cons.mp h with rfl | h
  ·exact valV_pos rfl
  ·rw [valV_neg (fun e=>nd.1 (by rw [Sum.inr.inj e]; exact List.mem_map.mpr ⟨x,h,rfl⟩))]
   exact val_line nd.2 h
inductive Sp_outcomewith (K:PySem.W.Frag) (vs:List V) (H:Hp) (Q:VK) (E_:XK):Prop
 | mk (p:Addr) (f:Addr) (d:Addr) (hs:Hands) (S:List Str) (C:List Str) (ff:List Addr) (fl:List (List (Key×V))) (ls:List LN) (h0_:vs=[.ref p,.ref f,.ref d]) (h1_:IsProg K H p hs) (h2_:Good S C hs) (h3_:SqL K H f (ff.map V.ref)) (h4_:FilledAt H ff fl) (h5_:fl.length=hs.length) (h6_:(∀ c∈fl,Ints c)) (h7_:LinesIn K H hs d ls) (h8_:∀ (r:Addr) (H':Hp),Same H H'→OutAt H' r hs fl ls→Q (.ref r) H'):Sp_outcomewith K vs H Q E_
noncomputable def sp_outcomewith (K:PySem.W.Frag):Sp:=Sp_outcomewith K
inductive Sp_outcomeof (K:PySem.W.Frag) (vs:List V) (H:Hp) (Q:VK) (E_:XK):Prop
 | mk (p:Addr) (t:Addr) (hs:Hands) (S:List Str) (C:List Str) (l:Addr) (m:Addr) (fs:List FR) (ls:List LN) (h0_:vs=[.ref p,.ref t]) (h1_:IsProg K H p hs) (h2_:Good S C hs) (h3_:IsTale K H t l m fs ls) (h4_:Fits hs fs ls) (h5_:(ls.map (·.pl)).Nodup) (h6_:∀ (r:Addr) (H':Hp),Same H H'→OutAt H' r hs (walkOf hs fs).filled ls→Q (.ref r) H'):Sp_outcomeof K vs H Q E_
noncomputable def sp_outcomeof (K:PySem.W.Frag):Sp:=Sp_outcomeof K
inductive OX1 (H1:Hp) (D:Addr) (us:List Str) (kvs:List (Key×V)) (d:Addr) (i:Nat) (σ:St) (ys:List V) (H':Hp):Prop
 | mk (ts:List Addr) (v:Option V) (h0_:Same H1 H') (h1_:H' D=some (.lst ys)) (h2_:ys=ts.map V.ref) (h3_:PrAt H' ts ((us.take i).map fun u=>(u,numV kvs u))) (h4_:ts.length=i) (h5_:σ=[v,some (.ref d)]):OX1 H1 D us kvs d i σ ys H'
inductive OX2 (H:Hp) (D:Addr) (fl:List (List (Key×V))) (hs:Hands) (p:Addr) (i:Nat) (σ:St) (ys:List V) (H':Hp):Prop
 | mk (as:List Addr) (v0:Option V) (v1:Option V) (h0_:Same H H') (h1_:H' D=some (.lst ys)) (h2_:ys=as.map V.ref) (h3_:as.length=i) (h4_:(∀ (j:Nat) (t:Addr) (c:List (Key×V)),as[j]?=some t→fl[j]?=some c→Ex_2_3 (fun (us:List Str) (ts:List Addr)=>H' t=some (.tup (ts.map V.ref))) (fun us ts=>CupsOf (handAt hs j) us) (fun us ts=>PrAt H' ts (us.map fun u=>(u,numV c u))))) (h5_:σ=[v0,v1,some (.ref p)]):OX2 H D fl hs p i σ ys H'
inductive OX3 (H2:Hp) (E:Addr) (ls:List LN) (hs:Hands) (p:Addr) (d:Addr) (i:Nat) (σ:St) (ys:List V) (H':Hp):Prop
 | mk (bs:List Addr) (v:Option V) (h0_:Same H2 H') (h1_:H' E=some (.lst ys)) (h2_:ys=bs.map V.ref) (h3_:PrAt H' bs ((ls.take i).map (lastN hs))) (h4_:bs.length=i) (h5_:σ=[v,some (.ref p),some (.ref d)]):OX3 H2 E ls hs p d i σ ys H'
section
variable {P:Program} {w:World} {K:PySem.W.Frag} {mg:Str→Option Value} {base:Heap}
theorem sc_cups:FnScope ["program","h","guards","asked","filled"] ["program","h"] (defScope s_cups):=⟨rfl,rfl,rfl,by decide +kernel,rfl,by decide +kernel,by decide +kernel⟩
theorem ok_cups {f:Addr} {fd:FuncData} (F:Fun K "cups" "cups" s_cups f fd) (T:Txt K mg) (h_guardof:Has P w K mg base 1 "guard_of" ["deed"] (sp_guardof K)) (h_cupof:Has P w K mg base 2 "cup_of" ["deed"] (sp_cupof K)) (h_isread:Has P w K mg base 1 "is_read" ["deed"] (sp_isread K)):FnOk P w K mg base CX0 3 f fd ["program","h"] (sp_cups K):=by
 refine F.ok (k:=2) sc_cups (fun vs H Q E h=>?_) (fun cdv A outer s H vs Q E hr h=>?_)
 ·obtain ⟨p,hs,S,C,j,hd,rfl,_⟩:=h
  rfl
 ·obtain ⟨p,hs,S,C,j,hd,rfl,hP,G,hx,q⟩:=h
  refine ⟨_,(pss_cons (ps_comp (i:=2) (Nc:=["deed"]) (nt:=1) (js:=[]) rfl sc_cups.nd rfl rfl ⟨rfl,rfl,rfl,rfl,.nil,rfl,⟨["deed"],[],rfl,rfl,.nil⟩⟩ (pi_list (pe_ix ix_list (pv 0) (pv 1) (fun _ _=>rfl))) (fun C s3 H3 fp pins=>⟨(pg_name (i:=0) (show (["deed"]:List Str).Nodup by decide +kernel) rfl (Or.inl rfl)),pts_nil,(pe_fn h_guardof (hr.mono (by decide)) (pa_cons (pv 0) pa_nil))⟩))
   (pss_cons (ps_comp (i:=3) (Nc:=["guard"]) (nt:=1) (js:=[]) rfl sc_cups.nd rfl rfl ⟨rfl,rfl,rfl,rfl,.nil,rfl,⟨["guard"],[],rfl,rfl,.nil⟩⟩ (pi_list (pv 2)) (fun C s3 H3 fp pins=>⟨(pg_name (i:=0) (show (["guard"]:List Str).Nodup by decide +kernel) rfl (Or.inl rfl)),(pts_one (pt_cmpR op_notN (pv 0) pe_non (nomark _))),(pe_ix (show IxR _ (rIxT K) from ix_tup) (pv 0) pe_int (fun _ _=>rfl))⟩))
   (pss_cons (ps_comp (i:=4) (Nc:=["deed"]) (nt:=1) (js:=[]) rfl sc_cups.nd rfl rfl ⟨rfl,rfl,rfl,rfl,.nil,rfl,⟨["deed"],[],rfl,rfl,.nil⟩⟩ (pi_list (pe_ix ix_list (pv 0) (pv 1) (fun _ _=>rfl))) (fun C s3 H3 fp pins=>⟨(pg_name (i:=0) (show (["deed"]:List Str).Nodup by decide +kernel) rfl (Or.inl rfl)),(pts_one (pt_val (pe_fn h_isread (hr.mono (by decide)) (pa_cons (pv 0) pa_nil)))),(pe_fn h_cupof (hr.mono (by decide)) (pa_cons (pv 0) pa_nil))⟩))
   (pss_one (ps_ret (pe_callB (call_sorted_set rfl) rfl T.n_sorted bt_sorted (pa_cons (pe_callTy (call_set_of rfl) rfl T.n_set bt_set (pa_cons (pe_op op_cat (pv 3) (pv 4)) pa_nil)) pa_nil))))))),?_⟩
  try dsimp only [nox_K]
  have hmem:=List.mem_of_getElem? hx
  have hH:=hP.hs hd hmem
  have n40:=G.nd hd hmem
  have ix:atI (hs.map fun h=>V.ref h.1) (j:Int)=some (V.ref hd.1):=atI_nat (by rw [List.getElem?_map,hx]; rfl)
  refine ⟨_,rfl,_,rfl,p,_,_,_,rfl,rfl,hP.l,ix,hd.1,rfl,⟨_,hH.l⟩,fun D hD=>?_⟩
  refine comp_list (xs:=hd.2.map fun x=>V.ref x.a) (fun i σ ys H3=>∃ v,Same H H3∧H3 D=some (.lst ys)∧ys=(hd.2.take i).map (fun x=>x.d.guard)∧σ=[v]) ?_ ?_ ?_ ?_ ?_
  ·exact ⟨none,Same.new hD,upd_same,rfl,rfl⟩
  ·rintro i σ ys H3 hi ⟨v,s3,hD3,rfl,rfl⟩
   exact ⟨s3.seq hH.l,hD3,by rw [List.length_map,List.length_take]; lia⟩
  ·rw [List.length_map]; exact Nat.le_of_lt (small1000 (by lia))
  ·rintro i y σ ys H3 hy ⟨v,s3,hD3,rfl,rfl⟩
   obtain ⟨x,hx2,rfl⟩:=refs_get hy
   refine ⟨_,rfl,x.a,x.d,rfl,((hH.ds x (List.mem_of_getElem? hx2)).same s3).t,hD3,_,Same.at hD s3,upd_same,?_,rfl⟩
   rw [List.take_add_one,hx2,List.map_append]
   rfl
  rintro σ ys H1 ⟨v,s1,hD1,rfl,rfl⟩
  rw [List.length_map,List.take_of_length_le (Nat.le_refl _)] at hD1
  refine ⟨_,rfl,D,rfl,⟨_,SqL.of hD1⟩,fun D2 hD2=>?_⟩
  refine comp_list (xs:=hd.2.map fun x=>x.d.guard) (fun i σ ys H3=>∃ v,Same H1 H3∧H3 D2=some (.lst ys)∧ys=((hd.2.take i).flatMap asks).map V.str∧σ=[v]) ?_ ?_ ?_ ?_ ?_
  ·exact ⟨none,Same.new hD2,upd_same,rfl,rfl⟩
  ·rintro i σ ys H3 hi ⟨v,s3,hD3,rfl,rfl⟩
   refine ⟨s3.seq (SqL.of hD1),hD3,?_⟩
   rw [List.length_map]
   exact Nat.le_trans (flat_len asks_len _) (by rw [List.length_take]; lia)
  ·rw [List.length_map]; exact Nat.le_of_lt (small1000 (by lia))
  ·rintro i y σ ys H3 hy ⟨v,s3,hD3,rfl,rfl⟩
   obtain ⟨x,hx2,rfl⟩:=refs_get hy
   have hg:=((hH.ds x (List.mem_of_getElem? hx2)).same (s1.trans s3)).g
   have e:=flat_take_succ asks hx2
   unfold DD.gok at hg
   cases hgc:x.g with
   | none =>
    rw [hgc] at hg
    rw [hg]
    refine ⟨_,rfl,rfl,_,rfl,ifNf rfl ⟨_,s3,hD3,?_,rfl⟩⟩
    rw [e,show asks x=[] by unfold asks; rw [hgc]; rfl,List.append_nil]
   | some c =>
    obtain ⟨w,c,n⟩:=c
    rw [hgc] at hg
    obtain ⟨g,hg1,hg2⟩:=hg
    rw [hg1]
    refine ⟨_,rfl,rfl,_,rfl,ifNt (fun z=>nomatch z) ⟨_,rfl,g,_,_,_,rfl,rfl,hg2,rfl,hD3,_,Same.at hD2 s3,upd_same,?_,rfl⟩⟩
    rw [e,show asks x=[c] by unfold asks; rw [hgc]; rfl,List.map_append]
    rfl
  rintro σ ys H2 ⟨v,s2,hD2',rfl,rfl⟩
  rw [List.length_map,List.take_of_length_le (Nat.le_refl _)] at hD2'
  have s12:=s1.trans s2
  refine ⟨_,rfl,_,rfl,p,_,_,_,rfl,rfl,s12.seq hP.l,ix,hd.1,rfl,⟨_,s12.seq hH.l⟩,fun D3 hD3=>?_⟩
  refine comp_list (xs:=hd.2.map fun x=>V.ref x.a) (fun i σ ys H3=>∃ v,Same H2 H3∧H3 D3=some (.lst ys)∧ys=((hd.2.take i).flatMap fun x=>fill x.d).map V.str∧σ=[v]) ?_ ?_ ?_ ?_ ?_
  ·exact ⟨none,Same.new hD3,upd_same,rfl,rfl⟩
  ·rintro i σ ys H3 hi ⟨v,s3,hD3',rfl,rfl⟩
   refine ⟨(s12.trans s3).seq hH.l,hD3',?_⟩
   rw [List.length_map]
   exact Nat.le_trans (flat_len (fun x=>fill_len x.d) _) (by rw [List.length_take]; lia)
  ·rw [List.length_map]; exact Nat.le_of_lt (small1000 (by lia))
  ·rintro i y σ ys H3 hy ⟨v,s3,hD3',rfl,rfl⟩
   obtain ⟨x,hx2,rfl⟩:=refs_get hy
   have hxd:=(hH.ds x (List.mem_of_getElem? hx2)).same (s12.trans s3)
   have e:=flat_take_succ (fun x:DD=>fill x.d) hx2
   refine ⟨_,rfl,x.a,x.d,rfl,hxd.t,fun H4 s4=>⟨_,rfl,ifB (fun c=>?_) (fun c=>?_)⟩⟩
   ·obtain ⟨z,z1,z2⟩:=cup_fill c
    refine ⟨_,rfl,x.a,x.d,rfl,s4.seqT hxd.t,fun H5 s5=>⟨(s4.trans s5) _ _ hD3',_,Same.at hD3 (s3.trans (s4.trans s5)),upd_same,?_,rfl⟩⟩
    rw [e,z1,z2,List.map_append]
    rfl
   ·refine ⟨_,s3.trans s4,s4 _ _ hD3',?_,rfl⟩
    rw [e,fill_none c,List.append_nil]
  rintro σ ys H3 ⟨v,s3,hD3',rfl,rfl⟩
  rw [List.length_map,List.take_of_length_le (Nat.le_refl _)] at hD3'
  have l1:(hd.2.flatMap asks).length≤40:=Nat.le_trans (flat_len asks_len _) n40
  have l2:(hd.2.flatMap fun x=>fill x.d).length≤40:=Nat.le_trans (flat_len (fun x=>fill_len x.d) _) n40
  refine ⟨_,rfl,_,rfl,D2,D3,_,_,rfl,rfl,s3 _ _ hD2',hD3',?_,fun n hn=>?_⟩
  ·rw [List.length_map,List.length_map]; exact Nat.le_of_lt (small1000 (by lia))
  rw [← List.map_append]
  refine ⟨n,hd.2.flatMap asks ++ hd.2.flatMap (fun x=>fill x.d),rfl,SqL.new,by rw [List.length_append]; lia,fun l us hl nd hm hle=>⟨l,us,rfl,upd_same,?_,nd,fun l' vs hl' hp hr=>?_⟩⟩
  ·have:=nodup_le nd (S:=C) fun z hz=>by
    rcases List.mem_append.mp ((hm z).mp hz) with h | h
    ·obtain ⟨x,a,b⟩:=List.mem_flatMap.mp h
     exact G.ca hd hmem x a z b
    ·obtain ⟨x,a,b⟩:=List.mem_flatMap.mp h
     exact G.cf hd hmem x a z b
   have:=G.nc
   lia
  ·refine q l' vs _ ((s12.trans s3).trans ((Same.new hn).trans ((Same.new hl).then hl'))) upd_same hr (fun z=>?_) (by have:=hp.length_eq; rw [List.length_append] at hle; lia)
   rw [hp.mem_iff,hm z,List.mem_append,List.mem_flatMap,List.mem_flatMap]
   constructor
   ·rintro (⟨x,a,b⟩ | ⟨x,a,b⟩)
    ·exact ⟨x,a,.inr b⟩
    ·exact ⟨x,a,.inl b⟩
   ·rintro ⟨x,a,b | b⟩
    ·exact .inr ⟨x,a,b⟩
    ·exact .inl ⟨x,a,b⟩
theorem sc_cupswith:FnScope ["program","h","has"] ["program","h","has"] (defScope s_cupswith):=⟨rfl,rfl,rfl,by decide +kernel,rfl,by decide +kernel,by decide +kernel⟩
theorem ok_cupswith {f:Addr} {fd:FuncData} (F:Fun K "cups_with" "cups_with" s_cupswith f fd) (T:Txt K mg) (h_cups:Has P w K mg base 3 "cups" ["program","h"] (sp_cups K)):FnOk P w K mg base CX0 4 f fd ["program","h","has"] (sp_cupswith K):=by
 refine F.ok (k:=3) sc_cupswith (fun vs H Q E h=>?_) (fun cdv A outer s H vs Q E hr h=>?_)
 ·obtain ⟨p,d,hs,S,C,j,hd,kvs,rfl,_⟩:=h
  rfl
 ·obtain ⟨p,d,hs,S,C,j,hd,kvs,rfl,hP,G,hx,hkv,hi,q⟩:=h
  have hu:=hu_of hr
  refine ⟨_,(pss_one (ps_ret (pe_callTy call_tuple_of rfl T.n_tuple bt_tuple (pa_cons (pe_comp (Nc:=["cup","has"]) (nt:=1) (js:=[2]) rfl ⟨rfl,rfl,rfl,rfl,(.cons rfl .nil),rfl,⟨["cup"],["has"],rfl,rfl,(.cons rfl rfl rfl .nil)⟩⟩ (pi_list (pe_fn h_cups (hr.mono (by decide)) (pa_cons (pv 0) (pa_cons (pv 1) pa_nil)))) (fun C s3 H3 fp pins=>⟨(pg_name (i:=0) (show (["cup","has"]:List Str).Nodup by decide +kernel) rfl (Or.inl rfl)),pts_nil,(pe_tup (pa_cons (pv 0) (pa_cons (pe_dget2 hu (pv 1) (pv 0) pe_int ⟨rfl,rfl,rfl,rfl⟩) pa_nil)))⟩)) pa_nil)))),?_⟩
  try dsimp only [nox_K]
  refine ⟨_,rfl,_,rfl,p,hs,S,C,j,hd,rfl,hP,G,hx,fun l us H1 s1 hl hrise hmem hlen=>?_⟩
  refine ⟨l,rfl,⟨_,SqL.of hl⟩,fun D hD=>?_⟩
  refine comp_list (xs:=us.map V.str) (OX1 H1 D us kvs d) ?_ ?_ ?_ ?_ ?_
  ·exact ⟨[],none,Same.new hD,upd_same,rfl,PrAt.nil,rfl,rfl⟩
  ·rintro i σ ys H' hi2 ⟨ts,v,s,hD',rfl,hp,hl2,rfl⟩
   exact ⟨s.seq (SqL.of hl),hD',by rw [List.length_map]; lia⟩
  ·rw [List.length_map]; exact Nat.le_of_lt (small1000 (by lia))
  ·rintro i y σ ys H' hy ⟨ts,v,s,hD',rfl,hp,hl2,rfl⟩
   obtain ⟨u,hu2,rfl⟩:=refs_get hy
   have hkv':=(s1.trans s) _ _ hkv
   have ev:(valV kvs (Sum.inr u:Key)).getD (.int 0)=.int (numV kvs u):=there_num hi u
   refine ⟨_,rfl,_,rfl,d,rfl,.inl ⟨kvs,.inl hkv'⟩,_,rfl,_,DGet.k (k:=Sum.inr u) hkv',(by show 2≤sizeLine; decide),fun t ht=>?_⟩
   rw [ev]
   have s2:Same H' (upd H' t (.tup [.str u,.int (numV kvs u)])):=Same.new ht
   refine ⟨s2 _ _ hD',ts ++ [t],_,Same.at hD (s.trans s2),upd_same,by rw [List.map_append]; rfl,?_,by rw [List.length_append,hl2]; rfl,rfl⟩
   have et:(us.take (i + 1)).map (fun u=>(u,numV kvs u))=(us.take i).map (fun u=>(u,numV kvs u)) ++ [(u,numV kvs u)]:=by rw [List.take_add_one,hu2,List.map_append]; rfl
   rw [et]
   exact ((hp.same s2).snoc upd_same).lset (s2 _ _ hD')
  ·rintro σ ys H' ⟨ts,v,s,hD',rfl,hp,hl2,rfl⟩
   rw [List.length_map,List.take_of_length_le (Nat.le_refl _)] at hp
   refine ⟨D,_,rfl,.inl ⟨SqL.of hD',fun t ht=>?_⟩⟩
   exact q t us ts _ (s1.trans (s.then ht)) upd_same ⟨hrise,hmem⟩ (hp.same (Same.new ht))
theorem sc_lastof:FnScope ["line"] ["line"] (defScope s_lastof):=⟨rfl,rfl,rfl,by decide +kernel,rfl,by decide +kernel,by decide +kernel⟩
theorem ok_lastof {f:Addr} {fd:FuncData} (F:Fun K "last_of" "last_of" s_lastof f fd) (T:Txt K mg) :FnOk P w K mg base CX0 1 f fd ["line"] (sp_lastof K):=by
 refine F.ok (k:=0) sc_lastof (fun vs H Q E h=>?_) (fun cdv A outer s H vs Q E hr h=>?_)
 ·obtain ⟨l,ps,zs,rfl,_⟩:=h
  rfl
 ·obtain ⟨l,ps,zs,rfl,hl,he,q⟩:=h
  refine ⟨_,(pss_one (ps_ret (pe_ifExp (pt_cmpR (op_neC (hu_deep hr)) (pv 0) (pe_lst pa_nil) (nomark _)) (pe_ix ix_list (pv 0) (pe_un un_neg pe_int) (fun _ _=>rfl)) pe_non))),?_⟩
  try dsimp only [nox_K]
  refine ⟨_,rfl,by decide,fun e hE=>?_⟩
  have s1:Same H (upd H e (.lst [])):=Same.new hE
  have hlen:ps.length=zs.length:=by have:=congrArg List.length he; simpa using this
  have tk:=tks_same s1 hl
  refine ⟨l,e,_,rfl,rfl,DT.lists (ps:=ps) (qs:=[]) tk ⟨SqL.of upd_same,fun q hq=>nomatch hq⟩,_,rfl,?_⟩
  rcases List.eq_nil_or_concat zs with rfl | ⟨zi,z,rfl⟩
  ·have e0:ps=[]:=List.length_eq_zero_iff.mp (by rw [hlen]; rfl)
   subst e0
   rw [decide_eq_true rfl]
   exact iteF (q _ _ s1 rfl)
  ·obtain ⟨pi,o,rfl⟩:Ex_2_1 (fun pi o=>ps=pi ++ [o]):=by
    have hne:ps≠[]:=fun c=>by rw [c] at hlen; simp at hlen
    exact ⟨ps.dropLast,ps.getLast hne,(List.dropLast_concat_getLast hne).symm⟩
   have e2:o.2=pk z:=by
    rw [List.map_append,List.concat_eq_append,List.map_append] at he
    exact List.cons.inj (List.append_inj_right' he rfl) |>.1
   rw [decide_eq_false (by simp)]
   have hoT:SqT K (upd H e (.lst [])) o.1 [.int z.1,.int z.2]:=by
    have:=tk.ts o (List.mem_append_right _ (List.mem_singleton.mpr rfl))
    rw [e2] at this
    exact this
   have ixl:atI ((pi ++ [o]).map fun q=>V.ref q.1) (-1)=some (.ref o.1):=by rw [List.map_append]; exact at_lastV _ _
   refine iteT ⟨_,rfl,1,rfl,l,_,_,_,rfl,rfl,tk.l,ixl,q _ _ s1 ?_⟩
   rw [List.concat_eq_append,List.getLast?_concat]
   exact ⟨o.1,rfl,hoT⟩
theorem sc_outcomewith:FnScope ["program","filled","lines","hands","ends"] ["program","filled","lines"] (defScope s_outcomewith):=⟨rfl,rfl,rfl,by decide +kernel,rfl,by decide +kernel,by decide +kernel⟩
theorem ok_outcomewith {f:Addr} {fd:FuncData} (F:Fun K "outcome_with" "outcome_with" s_outcomewith f fd) (T:Txt K mg) (h_cupswith:Has P w K mg base 4 "cups_with" ["program","h","has"] (sp_cupswith K)) (h_numberat:Has P w K mg base 4 "number_at" ["program","source"] (sp_numberat K)) (h_places:Has P w K mg base 3 "places" ["program"] (sp_places K)) (h_lastof:Has P w K mg base 1 "last_of" ["line"] (sp_lastof K)):FnOk P w K mg base CX0 5 f fd ["program","filled","lines"] (sp_outcomewith K):=by
 refine F.ok (k:=4) sc_outcomewith (fun vs H Q E h=>?_) (fun cdv A outer s H vs Q E hr h=>?_)
 ·obtain ⟨p,f,d,hs,S,C,ff,fl,ls,rfl,_⟩:=h
  rfl
 ·obtain ⟨p,f,d,hs,S,C,ff,fl,ls,rfl,hP,G,hf,hF,hfl,hI,hL,q⟩:=h
  have hu:=hu_of hr
  refine ⟨_,(pss_cons (ps_comp (i:=3) (Nc:=["h","has","program"]) (nt:=2) (js:=[0]) rfl sc_outcomewith.nd rfl rfl ⟨rfl,rfl,rfl,rfl,(.cons rfl .nil),rfl,⟨["h","has"],["program"],rfl,rfl,(.cons rfl rfl rfl .nil)⟩⟩ (pi_enum rfl T.n_enumerate (pa_cons (pv 1) pa_nil)) (fun C s3 H3 fp pins=>⟨(pg_tupK (K:=K) 2 rfl rfl (pgs_cons (pg_name (i:=0) (show (["h","has","program"]:List Str).Nodup by decide +kernel) rfl (Or.inl rfl) (hf:=Or.inr rfl)) (pgs_cons (pg_name (i:=1) (show (["h","has","program"]:List Str).Nodup by decide +kernel) rfl (Or.inl rfl) (hf:=Or.inr rfl)) pgs_nil)) rfl rfl),pts_nil,(pe_fn h_cupswith (hr.mono (by decide)) (pa_cons (pv 2) (pa_cons (pv 0) (pa_cons (pv 1) pa_nil))))⟩))
   (pss_cons (ps_comp (i:=4) (Nc:=["place","program","lines"]) (nt:=1) (js:=[0,2]) rfl sc_outcomewith.nd rfl rfl ⟨rfl,rfl,rfl,rfl,(.cons rfl (.cons rfl .nil)),rfl,⟨["place"],["program","lines"],rfl,rfl,(.cons rfl rfl rfl (.cons rfl rfl rfl .nil))⟩⟩ (pi_list (pe_fn h_places (hr.mono (by decide)) (pa_cons (pv 0) pa_nil))) (fun C s3 H3 fp pins=>⟨(pg_name (i:=0) (show (["place","program","lines"]:List Str).Nodup by decide +kernel) rfl (Or.inl rfl)),pts_nil,(pe_tup (pa_cons (pv 0) (pa_cons (pe_fn h_numberat (hr.mono (by decide)) (pa_cons (pv 1) (pa_cons (pe_fn h_lastof (hr.mono (by decide)) (pa_cons (pe_dget hu (pv 2) (pv 0) (fun _ _=>rfl)) pa_nil)) pa_nil))) pa_nil)))⟩))
   (pss_one (ps_ret (pe_tup (pa_cons (pe_callTy call_tuple_of rfl T.n_tuple bt_tuple (pa_cons (pv 3) pa_nil)) (pa_cons (pe_callTy call_tuple_of rfl T.n_tuple bt_tuple (pa_cons (pv 4) pa_nil)) pa_nil))))))),?_⟩
  try dsimp only [nox_K]
  have hn6:=G.nh
  have hffl:=hF.len
  refine ⟨_,rfl,f,rfl,⟨_,hf⟩,fun D hD=>?_⟩
  refine comp_enum (xs:=ff.map V.ref) (OX2 H D fl hs p) ?_ ?_ ?_ ?_ ?_
  ·exact ⟨[],none,none,Same.new hD,upd_same,rfl,rfl,(fun j t c e=>by simp at e),rfl⟩
  ·rintro i σ ys H' hi ⟨as,v0,v1,s,hD',rfl,hal,hat,rfl⟩
   exact ⟨s.seq hf,hD',by rw [List.length_map]; lia⟩
  ·rw [List.length_map]; exact Nat.le_of_lt (small1000 (by lia))
  ·rintro i y σ ys H' t0 hy ⟨as,v0,v1,s,hD',rfl,hal,hat,rfl⟩ ht0
   obtain ⟨a,ha,rfl⟩:=refs_get hy
   have hi:i < fl.length:=by rw [← hffl]; exact (List.getElem?_eq_some_iff.mp ha).1
   have hc:fl[i]?=some fl[i]:=List.getElem?_eq_getElem hi
   have hcI:=hI fl[i] (List.getElem_mem hi)
   generalize fl[i]=c at hc hcI
   obtain ⟨hd,hh⟩:∃ hd,hs[i]?=some hd:=⟨_,List.getElem?_eq_getElem (by lia)⟩
   have s1:Same H' (upd H' t0 (.tup [.int i,.ref a])):=Same.new ht0
   refine ⟨t0,_,rfl,SqT.new,rfl,_,_,rfl,_,_,rfl,rfl,?_⟩
   generalize upd H' t0 (.tup [.int i,.ref a])=H2 at s1 ⊢
   have s02:=s.trans s1
   refine ⟨_,rfl,_,rfl,_,rfl,p,a,hs,S,C,i,hd,c,rfl,hP.same s02,G,hh,s02 _ _ (hF.at_ i a c ha hc),hcI,fun t us ts H3 s3 ht hcu hpr=>?_⟩
   have s13:=s1.trans s3
   refine ⟨s13 _ _ hD',as ++ [t],_,_,Same.at hD (s.trans s13),upd_same,by rw [List.map_append]; rfl,by rw [List.length_append,hal]; rfl,fun j t' c' e1 e2=>?_,rfl⟩
   have hD3:=s13 _ _ hD'
   by_cases cj:j < as.length
   ·rw [List.getElem?_append_left cj] at e1
    obtain ⟨us',ts',x1,x2,x3⟩:=hat j t' c' e1 e2
    have x1':=s13 _ _ x1
    exact ⟨us',ts',by rw [upd_ne (ne_of x1' hD3 (by intro z; cases z))]; exact x1',x2,(x3.same s13).lset hD3⟩
   ·rw [List.getElem?_append_right (by lia)] at e1
    have e3:j - as.length=0:=by
     have:=(List.getElem?_eq_some_iff.mp e1).1
     rw [List.length_cons,List.length_nil] at this
     lia
    have ej:j=i:=by lia
    rw [e3] at e1
    cases e1
    rw [ej] at e2 ⊢
    rw [hc] at e2
    cases e2
    exact ⟨us,ts,by rw [upd_ne (ne_of ht hD3 (by intro z; cases z))]; exact ht,by rw [handAt_of hh]; exact hcu,hpr.lset hD3⟩
  rintro σ ys H1 ⟨as,v0,v1,s1,hD1,rfl,hal,hat,rfl⟩
  rw [List.length_map] at hal
  refine ⟨_,rfl,p,hs,S,C,rfl,hP.same s1,G,fun l us H2 s2 nl hl hrise hmem=>?_⟩
  have epl:=hL.pl us hrise hmem
  have s02:=s1.trans s2
  have hul:us.length=ls.length:=by rw [← epl,List.length_map]
  have hln:=hL.n
  refine ⟨l,rfl,⟨_,SqL.of hl⟩,fun E hE=>?_⟩
  refine comp_list (xs:=us.map V.str) (OX3 H2 E ls hs p d) ?_ ?_ ?_ ?_ ?_
  ·exact ⟨[],none,Same.new hE,upd_same,rfl,PrAt.nil,rfl,rfl⟩
  ·rintro i σ ys H' hi ⟨bs,v,s,hE',rfl,hp,hbl,rfl⟩
   exact ⟨s.seq (SqL.of hl),hE',by rw [List.length_map]; lia⟩
  ·rw [List.length_map]; exact Nat.le_of_lt (small1000 (by lia))
  ·rintro i y σ ys H' hy ⟨bs,v,s,hE',rfl,hp,hbl,rfl⟩
   obtain ⟨u,hu2,rfl⟩:=refs_get hy
   have hi:i < ls.length:=by rw [← hul]; exact (List.getElem?_eq_some_iff.mp hu2).1
   obtain ⟨x,hx⟩:∃ x,ls[i]?=some x:=⟨_,List.getElem?_eq_getElem hi⟩
   have hxm:=List.mem_of_getElem? hx
   have eu:u=x.pl:=by
    have a1:(ls.map (·.pl))[i]?=some x.pl:=by rw [List.getElem?_map,hx]; rfl
    rw [epl,hu2] at a1
    exact Option.some.inj a1
   subst eu
   have s0:=s02.trans s
   have L':=hL.same s0
   have gx:DGet H' d (.str x.pl) (some (.ref x.l)):=by
    have:=DGet.k (k:=Sum.inr x.pl) L'.d
    rw [val_line hL.nd hxm] at this
    exact this
   refine ⟨_,rfl,_,rfl,_,rfl,_,rfl,d,_,rfl,gx,x.l,x.ps,x.zs,rfl,(L'.q x hxm).1,(L'.q x hxm).2,fun sv H3 s3 hsv=>?_⟩
   refine ⟨p,hs,S,C,sv,_,rfl,(hP.same s0).same s3,G,hsv,fun z hz=>hL.wr x hxm z (List.mem_of_getLast? hz),fun H4 s4=>?_⟩
   refine ⟨by show 2≤sizeLine; decide,fun t ht=>?_⟩
   have s5:Same H' (upd H4 t (.tup [.str x.pl,.int (numAt hs x.zs.getLast?)])):=(s3.trans s4).then ht
   refine ⟨s5 _ _ hE',bs ++ [t],_,Same.at hE (s.trans s5),upd_same,by rw [List.map_append]; rfl,?_,by rw [List.length_append,hbl]; rfl,rfl⟩
   have et:(ls.take (i + 1)).map (lastN hs)=(ls.take i).map (lastN hs) ++ [lastN hs x]:=by rw [List.take_add_one,hx,List.map_append]; rfl
   rw [et]
   exact ((hp.same s5).snoc upd_same).lset (s5 _ _ hE')
  rintro σ ys H3 ⟨bs,v,s3,hE3,rfl,hp,hbl,rfl⟩
  rw [List.length_map,hul,List.take_of_length_le (Nat.le_refl _)] at hp
  have s13:=s2.trans s3
  refine ⟨_,rfl,D,_,rfl,.inl ⟨SqL.of (s13 _ _ hD1),fun ta hta=>?_⟩⟩
  have s4:Same H3 (upd H3 ta (.tup (as.map V.ref))):=Same.new hta
  refine ⟨_,rfl,E,_,rfl,.inl ⟨SqL.of (s4 _ _ hE3),fun tb htb=>?_⟩⟩
  have s5:=s4.then (o:=.tup (bs.map V.ref)) htb
  refine ⟨by show 2≤sizeLine; decide,fun r hr2=>?_⟩
  have s6:=s5.then (o:=.tup [.ref ta,.ref tb]) hr2
  have k1:=(Same.new (o:=.tup [.ref ta,.ref tb]) hr2) _ _ ((Same.new (o:=.tup (bs.map V.ref)) htb) _ _ (upd_same (H:=H3) (a:=ta) (o:=.tup (as.map V.ref))))
  have k2:=(Same.new (o:=.tup [.ref ta,.ref tb]) hr2) _ _ (upd_same (H:=upd H3 ta (.tup (as.map V.ref))) (a:=tb) (o:=.tup (bs.map V.ref)))
  refine q r _ (s1.trans (s13.trans s6)) ⟨ta,tb,as,bs,upd_same,k1,by lia,k2,hp.same s6,fun i t c e1 e2=>?_⟩
  obtain ⟨us',ts',x1,x2,x3⟩:=hat i t c e1 e2
  exact ⟨us',ts',(s13.trans s6) _ _ x1,x2,x3.same (s13.trans s6)⟩
theorem sc_outcomeof:FnScope ["program","tale","walk"] ["program","tale"] (defScope s_outcomeof):=⟨rfl,rfl,rfl,by decide +kernel,rfl,by decide +kernel,by decide +kernel⟩
theorem ok_outcomeof {f:Addr} {fd:FuncData} (F:Fun K "outcome_of" "outcome_of" s_outcomeof f fd) (T:Txt K mg) (h_wholewalk:Has P w K mg base 7 "whole_walk" ["program","tale"] (sp_wholewalk K)) (h_outcomewith:Has P w K mg base 5 "outcome_with" ["program","filled","lines"] (sp_outcomewith K)):FnOk P w K mg base CX0 8 f fd ["program","tale"] (sp_outcomeof K):=by
 refine F.ok (k:=7) sc_outcomeof (fun vs H Q E h=>?_) (fun cdv A outer s H vs Q E hr h=>?_)
 ·obtain ⟨p,t,hs,S,C,l,m,fs,ls,rfl,_⟩:=h
  rfl
 ·obtain ⟨p,t,hs,S,C,l,m,fs,ls,rfl,hP,G,hT,hF,ndp,q⟩:=h
  have hu4:=hu_4 hr
  refine ⟨_,(pss_cons (ps_set (i:=2) sc_outcomeof.nd rfl (Or.inl rfl) (pe_fn h_wholewalk (hr.mono (by decide)) (pa_cons (pv 0) (pa_cons (pv 1) pa_nil))))
   (pss_one (ps_ret (pe_fn h_outcomewith (hr.mono (by decide)) (pa_cons (pv 0) (pa_cons (pe_fld (pv 2) rfl) (pa_cons (pe_callTy (call_dict_pairsK rfl hu4) rfl T.n_dict bt_dict (pa_cons (pe_ix ix_tup (pv 1) pe_int (fun _ _=>rfl)) pa_nil)) pa_nil))))))),?_⟩
  try dsimp only [nox_K]
  refine ⟨_,rfl,_,rfl,p,t,hs,S,C,l,m,fs,ls,rfl,hP,G,hT,hF,fun wa dx dn st fl ss ff H2 s2 W nwa=>?_⟩
  have T2:=hT.same s2
  refine ⟨_,rfl,_,rfl,wa,_,dx,_,_,rfl,W.eob,T.cl_Walk,T.na_Walk_filled,fl_filled,_,rfl,t,_,_,_,rfl,rfl,T2.t,atI_nat (j:=1) rfl,m,ls.map (fun x=>(x.a,Sum.inr x.pl,.ref x.l)),rfl,?_,?_,?_,fun d hd=>?_⟩
  ·rw [List.map_map]; exact T2.g.l
  ·rw [List.length_map]; have:=hT.nl; lia
  ·intro x hx
   obtain ⟨y,hy,rfl⟩:=List.mem_map.mp hx
   exact T2.g.p y hy
  have ek:foldP [] ((ls.map fun x=>((x.a,Sum.inr x.pl,.ref x.l):Addr×Key×V)).map (·.2))=lineK ls:=by
   rw [List.map_map,foldP_nodup]
   ·rfl
   ·rw [List.nil_append,List.map_map]
    have:(ls.map fun x=>(Sum.inr x.pl:Key)).Nodup:=by
     have e:ls.map (fun x=>(Sum.inr x.pl:Key))=(ls.map (·.pl)).map Sum.inr:=by rw [List.map_map]; rfl
     rw [e]
     exact List.Pairwise.map _ (fun a b h e=>h (Sum.inr.inj e)) ndp
    exact this
  rw [ek]
  have s3:Same H2 (upd H2 d (.dK (lineK ls))):=Same.new hd
  have hwl:(walkOf hs fs).filled.length=hs.length:=(progW_len (numBy hs (srcOf fs)) G hs.length).2.2
  have rs:Rising hs.length 0 (walkOf hs fs).done:=progW_rising _ hs hs.length
  refine ⟨p,fl,d,hs,S,C,ff,(walkOf hs fs).filled,ls,rfl,hP.same (s2.trans s3),G,SqL.of (s3 _ _ W.efl),(W.same s3).fa,hwl,progW_ints _ hs hs.length,⟨upd_same,fun x hx=>⟨((T2.g.same s3).q x hx).1,((T2.g.same s3).q x hx).2.1⟩,ndp,hF.pl,fun x hx z hz=>?_,hT.nl⟩,fun r H4 s4 o=>q r H4 (s2.trans (s3.trans s4)) o⟩
  have hz2:=(hF.li x hx).mem_iff.mp hz
  exact writers_write hz2
end
end Own
set_option Elab.async false
set_option linter.all false
set_option maxRecDepth 100000
set_option maxHeartbeats 4100000
namespace Own
open PySem L2
noncomputable abbrev Gd:=Option (Str×Str×Int)
noncomputable def gAsk (g:Gd):List Str:=(g.map fun g=>g.2.1).toList
theorem gok_of {K:PySem.W.Frag} {H:Hp} {t:Addr} {d:Deed} {g:Gd} (h:GOk K H d.guard g):DD.gok K H ⟨t,d,g⟩:=by
 unfold DD.gok
 cases g with
 | none=>exact h
 | some c=>exact h
theorem GOk.same {K:PySem.W.Frag} {H H':Hp} {v:V} {g:Gd} (s:Same H H') (h:GOk K H v g):GOk K H' v g:=by
 cases g with
 | none=>exact h
 | some c=>obtain ⟨q,e,h⟩:=h; exact ⟨q,e,s.seqT h⟩
inductive Sp_Lnames (K:PySem.W.Frag) (vs:List V) (H:Hp) (Q:VK) (E_:XK):Prop
 | mk (c:Int) (h0_:vs=[.int c]) (h1_:0≤c) (h2_:c < 2147483647) (h3_:∀ (l:Addr) (ns:List Str) (H':Hp),Same H H'→H l=none→H' l=some (.lst (ns.map V.str))→ns.length=5→Q (.ref l) H'):Sp_Lnames K vs H Q E_
noncomputable def sp_Lnames (K:PySem.W.Frag):Sp:=Sp_Lnames K
noncomputable abbrev letters:Str:="abcdefghijklmnopqrstuvwxyz"
theorem letter_at {z:Int} (h0:0≤z) (h1:z < 26):∃ c,atI letters.cps.toList z=some c:=by
 obtain ⟨j,rfl⟩:=Int.eq_ofNat_of_zero_le h0
 have hl:letters.cps.toList.length=26:=by decide +kernel
 exact ⟨_,atI_nat (List.getElem?_eq_getElem (by lia))⟩
theorem letters_len:letters.length≤sizeLine:=by rw [sizeLine_eq]; decide +kernel
noncomputable def Sg (zs:List Int):Prop:=∀ z∈zs,0≤z∧z < 26
theorem cut_mem {xs:List V} {lo hi:Option Int} {v:V} (h:v∈cutV xs lo hi):v∈xs:=by
 unfold cutV at h
 exact List.mem_of_mem_drop (List.mem_of_mem_take h)
structure Named (H:Hp) (nl pl:Addr) (nm:List Str) (pn:List Int):Prop where
 n:H nl=some (.lst (nm.map V.str))
 n3:nm.length=5
 p:H pl=some (.lst (pn.map V.int))
 p4:pn.length=4
theorem Named.same {H H':Hp} {nl pl:Addr} {nm:List Str} {pn:List Int} (s:Same H H') (h:Named H nl pl nm pn):Named H' nl pl nm pn:=⟨s _ _ h.n,h.n3,s _ _ h.p,h.p4⟩
inductive Sp_Lguard (K:PySem.W.Frag) (vs:List V) (H:Hp) (Q:VK) (E_:XK):Prop
 | mk (m:Int) (nl:Addr) (pl:Addr) (nm:List Str) (pn:List Int) (h0_:vs=[.int m,.ref nl,.ref pl]) (h1_:Named H nl pl nm pn) (h2_:∀ (v:V) (g:Gd) (H':Hp),Same H H'→GOk K H' v g→(∀ c∈gAsk g,c∈nm.drop 2)→Q v H'):Sp_Lguard K vs H Q E_
noncomputable def sp_Lguard (K:PySem.W.Frag):Sp:=Sp_Lguard K
inductive Sp_Ldeed (K:PySem.W.Frag) (vs:List V) (H:Hp) (Q:VK) (E_:XK):Prop
 | mk (m:Int) (own:Int) (nl:Addr) (pl:Addr) (nm:List Str) (pn:List Int) (wi:Int) (h0_:vs=[.int m,.int own,.ref nl,.ref pl,.int wi]) (h1_:Named H nl pl nm pn) (h2_:1≤wi) (h3_:wi≤4) (h4_:∀ (x:DD) (H':Hp),Same H H'→IsDeed K H' x→(∀ z∈spot x.d,z∈nm.take 4)→(∀ z∈fill x.d,z∈nm.drop 2)→(∀ z∈asks x,z∈nm.drop 2)→Q (.ref x.a) H'):Sp_Ldeed K vs H Q E_
noncomputable def sp_Ldeed (K:PySem.W.Frag):Sp:=Sp_Ldeed K
noncomputable def sp_Lholds (K:PySem.W.Frag):Sp:=sp_holds K
noncomputable def words:List Str:=["put","get","put","get","swap","fence","bar","swap"]
theorem word_of {z:Int} (h0:0≤z) (h1:z < 8):∃ wd:Str,atI (words.map V.str) z=some (.str wd)∧(wd="put"∨wd="get"∨wd="swap"∨wd="fence"∨wd="bar"):=by
 obtain ⟨j,rfl⟩:=Int.eq_ofNat_of_zero_le h0
 have hj:j < words.length:=by show j < 8; lia
 refine ⟨words[j],atI_nat (by rw [List.getElem?_map,List.getElem?_eq_getElem hj]; rfl),?_⟩
 have:∀ wd∈words,wd="put"∨wd="get"∨wd="swap"∨wd="fence"∨wd="bar":=by
  unfold words
  simp
 exact this _ (List.getElem_mem hj)
theorem cup_at5 {nm:List Str} (hl:nm.length=5) (z:Int):∃ y,y∈nm.drop 2∧atI (nm.map V.str) (2 + z % 3)=some (.str y):=by
 have h0:=Int.emod_nonneg z (show (3:Int)≠0 by decide)
 have h1:=Int.emod_lt_of_pos z (show (0:Int) < 3 by decide)
 obtain ⟨j,e⟩:=Int.eq_ofNat_of_zero_le h0
 have hj:2 + j < nm.length:=by lia
 have e2:2 + z % 3=((2 + j:Nat):Int):=by lia
 rw [e2]
 exact ⟨nm[2 + j],List.mem_of_getElem? (i:=j) (by rw [List.getElem?_drop,List.getElem?_eq_getElem hj]),atI_nat (by rw [List.getElem?_map,List.getElem?_eq_getElem hj]; rfl)⟩
theorem place_at5 {nm:List Str} (hl:nm.length=5) (z:Int) {w:Int} (w1:1≤w) (w4:w≤4):∃ y,y∈nm.take 4∧atI (nm.map V.str) (z % w)=some (.str y):=by
 have h0:=Int.emod_nonneg z (show w≠0 by lia)
 have h1:=Int.emod_lt_of_pos z (show (0:Int) < w by lia)
 obtain ⟨j,e⟩:=Int.eq_ofNat_of_zero_le h0
 have hj:j < nm.length:=by lia
 rw [e]
 exact ⟨nm[j],List.mem_of_getElem? (i:=j) (by rw [List.getElem?_take_of_lt (by lia),List.getElem?_eq_getElem hj]),atI_nat (by rw [List.getElem?_map,List.getElem?_eq_getElem hj]; rfl)⟩
theorem num_of {pn:List Int} {n:Nat} (hl:pn.length=n) {z:Int} (h0:0≤z) (h1:z < n):∃ y:Int,atI (pn.map V.int) z=some (.int y):=by
 obtain ⟨j,rfl⟩:=Int.eq_ofNat_of_zero_le h0
 have hj:j < pn.length:=by lia
 exact ⟨pn[j],atI_nat (by rw [List.getElem?_map,List.getElem?_eq_getElem hj]; rfl)⟩
inductive MX1 (H:Hp) (D:Addr) (c:Int) (i:Nat) (σ:St) (ys:List V) (H':Hp):Prop
 | mk (zs:List Int) (v:Option V) (h0_:Same H H') (h1_:H' D=some (.lst ys)) (h2_:ys=zs.map V.int) (h3_:zs.length=i) (h4_:Sg zs) (h5_:σ=[v,some (.int c)]):MX1 H D c i σ ys H'
inductive MX2 (H:Hp) (D:Addr) (zs:List Int) (f:Addr) (c:Int) (s8:Int) (at_:Int) (i:Nat) (σ:St) (H':Hp):Prop
 | mk (ns:List Str) (v6:Option V) (v7:Option V) (h0_:Same H H') (h1_:H' D=some (.lst (zs.map V.int))) (h2_:H' f=some (.lst (ns.map V.str))) (h3_:ns.length=i) (h4_:σ=[some (.int c),some (.str letters),some (.int (1 + s8)),some (.int at_),some (.ref D),some (.ref f),v6,v7]):MX2 H D zs f c s8 at_ i σ H'
inductive MX3 (H':Hp) (p:Addr) (cs:List V) (D2:Addr) (j:Nat) (σ:St) (ys:List V) (H3:Hp):Prop
 | mk (ss:List Str) (v:Option V) (h0_:Same (upd H' p (.lst cs)) H3) (h1_:H3 D2=some (.lst ys)) (h2_:ys=ss.map V.str) (h3_:(∀ y∈ss,y.length≤1)) (h4_:ss.length=j) (h5_:σ=[v,some (.str letters)]):MX3 H' p cs D2 j σ ys H3
inductive MX4 (H':Hp) (D2:Addr) (D:Addr) (i:Nat) (at_:Int) (j:Nat) (σ:St) (ys:List V) (H3:Hp):Prop
 | mk (ss:List Str) (v:Option V) (h0_:Same H' H3) (h1_:H3 D2=some (.lst ys)) (h2_:ys=ss.map V.str) (h3_:(∀ y∈ss,y.length≤1)) (h4_:ss.length=j) (h5_:σ=[v,some (.str letters),some (.ref D),some (.int (0 + (i:Int))),some (.int at_)]):MX4 H' D2 D i at_ j σ ys H3
section
variable {P:Program} {w:World} {K:PySem.W.Frag} {mg:Str→Option Value} {base:Heap}
theorem sc_Lnames:FnScope ["_law_cell","_law_letters","_law_size_here","_law_at","_law_signs","_law_found","_law_k","_law_some"] ["_law_cell"] (defScope s_Lnames):=⟨rfl,rfl,rfl,by decide +kernel,rfl,by decide +kernel,by decide +kernel⟩
theorem ok_Lnames {f:Addr} {fd:FuncData} (F:Fun K "_law_names" "_law_names" s_Lnames f fd) (T:Txt K mg) :FnOk P w K mg base CX0 1 f fd ["_law_cell"] (sp_Lnames K):=by
 refine F.ok (k:=0) sc_Lnames (fun vs H Q E h=>?_) (fun cdv A outer s H vs Q E hr h=>?_)
 ·obtain ⟨c,rfl,_⟩:=h
  rfl
 ·obtain ⟨c,rfl,h0,h1,q⟩:=h
  refine ⟨_,(pss_cons (ps_set (i:=1) sc_Lnames.nd rfl (Or.inr rfl) pe_str)
   (pss_cons (ps_set (i:=2) sc_Lnames.nd rfl (Or.inl rfl) (pe_op op_add pe_int (pe_op op_mod (pv 0) pe_int)))
   (pss_cons (ps_set (i:=3) sc_Lnames.nd rfl (Or.inr rfl) (pe_op op_mod (pe_op op_fdiv (pv 0) pe_int) (pv 2)))
   (pss_cons (ps_set (i:=4) sc_Lnames.nd rfl (Or.inr rfl) (pe_comp (Nc:=["_law_j","_law_cell"]) (nt:=1) (js:=[0]) rfl ⟨rfl,rfl,rfl,rfl,(.cons rfl .nil),rfl,⟨["_law_j"],["_law_cell"],rfl,rfl,(.cons rfl rfl rfl .nil)⟩⟩ (pi_range1 rfl T.n_range (pa_cons pe_int pa_nil)) (fun C s3 H3 fp pins=>⟨(pg_name (i:=0) (show (["_law_j","_law_cell"]:List Str).Nodup by decide +kernel) rfl (Or.inl rfl)),pts_nil,(pe_op op_mod (pe_op op_add (pe_op op_fdiv (pv 1) pe_int) (pe_op op_mulB (pv 0) (pe_op op_mod (pe_op op_fdiv (pv 1) pe_int) pe_int))) pe_int)⟩)))
   (pss_cons (ps_set (i:=5) sc_Lnames.nd rfl (Or.inl rfl) (pe_lst pa_nil))
   (pss_cons (ps_for PassesOwn.never rfl (pi_range1 rfl T.n_range (pa_cons pe_int pa_nil)) (pg_name (i:=6) sc_Lnames.nd rfl (Or.inr rfl))
   (pss_one (ps_if (pt_cmpR op_eq (pe_op op_mod (pe_op op_fdiv (pv 0) pe_int) pe_int) pe_int (nomark _))
   (pss_one (ps_expr (pe_bm PySem.F.plainAttrs_list PySem.F.slot_list_append PySem.F.type_list_append mt_append (pv 5) (pa_cons (pe_bm PySem.F.plainAttrs_str PySem.F.slot_str_join PySem.F.type_str_join mt_join pe_str (pa_cons (pe_comp (Nc:=["_law_sign","_law_letters"]) (nt:=1) (js:=[1]) rfl ⟨rfl,rfl,rfl,rfl,(.cons rfl .nil),rfl,⟨["_law_sign"],["_law_letters"],rfl,rfl,(.cons rfl rfl rfl .nil)⟩⟩ (pi_list (pe_slice sl_list (pv 4) po_none (po_some (pe_op op_add pe_int (pe_op op_mod (pe_op op_add (pv 2) (pv 6)) pe_int))))) (fun C s3 H3 fp pins=>⟨(pg_name (i:=0) (show (["_law_sign","_law_letters"]:List Str).Nodup by decide +kernel) rfl (Or.inl rfl)),pts_nil,(pe_ix ix_str (pv 1) (pv 0) (fun _ _=>rfl))⟩)) pa_nil)) pa_nil))))
   (pss_cons (ps_comp (i:=7) (Nc:=["_law_j","_law_letters","_law_signs","_law_k","_law_at"]) (nt:=1) (js:=[1,4,6,3]) rfl sc_Lnames.nd rfl rfl ⟨rfl,rfl,rfl,rfl,(.cons rfl (.cons rfl (.cons rfl (.cons rfl .nil)))),rfl,⟨["_law_j"],["_law_letters","_law_signs","_law_k","_law_at"],rfl,rfl,(.cons rfl rfl rfl (.cons rfl rfl rfl (.cons rfl rfl rfl (.cons rfl rfl rfl .nil))))⟩⟩ (pi_range1 rfl T.n_range (pa_cons (pv 2) pa_nil)) (fun C s3 H3 fp pins=>⟨(pg_name (i:=0) (show (["_law_j","_law_letters","_law_signs","_law_k","_law_at"]:List Str).Nodup by decide +kernel) rfl (Or.inl rfl)),pts_nil,(pe_ix ix_str (pv 1) (pe_op op_mod (pe_op op_add (pe_ix (show IxR _ (rIxL K) from ix_list) (pv 2) (pv 0) (fun _ _=>rfl)) (pe_op op_mulB (pv 3) (pe_callTy call_int1 rfl T.n_int bt_int (pa_cons (pe_cmpR op_eq (pv 0) (pv 4) (nomark _)) pa_nil)))) pe_int) (fun _ _=>rfl))⟩))
   (pss_one (ps_expr (pe_bm PySem.F.plainAttrs_list PySem.F.slot_list_append PySem.F.type_list_append mt_append (pv 5) (pa_cons (pe_bm PySem.F.plainAttrs_str PySem.F.slot_str_join PySem.F.type_str_join mt_join pe_str (pa_cons (pv 7) pa_nil)) pa_nil))))))))
   (pss_one (ps_ret (pv 5))))))))),?_⟩
  try dsimp only [nox_K]
  refine ⟨_,rfl,_,_,rfl,rfl,(by show (0:Int) < 8; decide),_,_,rfl,rfl,?_⟩
  have hm8:0≤c % 8∧c % 8 < 8:=⟨Int.emod_nonneg _ (by decide),Int.emod_lt_of_pos _ (by decide)⟩
  generalize hs8:c % 8=s8 at hm8
  refine ⟨_,rfl,_,_,rfl,rfl,⟨by decide,by decide⟩,_,rfl,_,_,rfl,rfl,(by show (0:Int) < 1 + s8; lia),?_⟩
  obtain ⟨at_,hat⟩:∃ a,a=c / 8 % (1 + s8):=⟨_,rfl⟩
  refine ⟨8,rfl,by decide,by decide,fun D hD=>?_⟩
  refine comp_range (n:=8) (MX1 H D c) ?_ ?_ ?_ ?_ ?_
  ·exact ⟨[],none,Same.new hD,upd_same,rfl,rfl,(fun z hz=>nomatch hz),rfl⟩
  ·rintro i σ ys H' hi ⟨zs,v,s,hD',rfl,hl,hz,rfl⟩
   exact ⟨hD',by rw [List.length_map,hl]; exact Nat.le_refl _⟩
  ·rw [sizeLine_eq]; decide
  ·rintro i σ ys H' hi ⟨zs,v,s,hD',rfl,hl,hz,rfl⟩
   have m7:0≤c / 1664 % 7∧c / 1664 % 7 < 7:=⟨Int.emod_nonneg _ (by decide),Int.emod_lt_of_pos _ (by decide)⟩
   refine ⟨_,rfl,_,_,rfl,rfl,⟨by decide,by decide⟩,_,rfl,_,rfl,_,_,rfl,rfl,⟨by decide,by decide⟩,_,_,rfl,rfl,(by show (0:Int) < 7; decide),_,_,rfl,rfl,.inl (.inr ⟨by lia,by lia⟩),_,_,rfl,rfl,_,_,rfl,rfl,(by show (0:Int) < 26; decide),hD',zs ++ [_],_,Same.at hD s,upd_same,by rw [List.map_append]; rfl,by rw [List.length_append,hl]; rfl,fun z hz'=>?_,rfl⟩
   rcases List.mem_append.mp hz' with hz' | hz'
   ·exact hz z hz'
   ·rw [List.mem_singleton.mp hz']
    exact ⟨Int.emod_nonneg _ (by decide),Int.emod_lt_of_pos _ (by decide)⟩
  rintro σ ys H1 ⟨zs,v,s1,hD1,rfl,hzl,hz,rfl⟩
  refine ⟨by decide,fun f hf=>?_⟩
  have wf:H f=none:=s1.free hf
  refine ⟨5,rfl,by decide,by decide,for_range (n:=5) (MX2 H D zs f c s8 at_) ?_ ?_ ?_⟩
  ·exact ⟨[],none,none,Same.at wf s1,by rw [upd_ne (ne_of_none hD1 hf)]; exact hD1,upd_same,rfl,by rw [hat]; rfl⟩
  ·rintro i σ H' hi ⟨ns,v6,v7,s,hDz,hfn,hnl,rfl⟩
   have hzf:(ns.map V.str).length < sizeLine:=by rw [List.length_map]; exact small1000 (by lia)
   have nDf:D≠f:=ne_of_none hD1 hf
   have fin:∀ {H2:Hp} (x:Str),Same H' H2→Ex_3_5 (fun (ns':List Str) (v6 v7:Option V)=>Same H (upd H2 f (.lst (ns.map V.str ++ [.str x])))) (fun ns' v6 v7=>(upd H2 f (.lst (ns.map V.str ++ [.str x]))) D=some (.lst (zs.map V.int))) (fun ns' v6 v7=>(upd H2 f (.lst (ns.map V.str ++ [.str x]))) f=some (.lst (ns'.map V.str))) (fun ns' v6 v7=>ns'.length=i + 1) (fun ns' v6 v7=>True):=fun {H2} x s2 =>
    ⟨ns ++ [x],none,none,Same.at wf (s.trans s2),by rw [upd_ne nDf]; exact s2 _ _ hDz,by rw [upd_same,List.map_append]; rfl,by rw [List.length_append,hnl]; rfl,trivial⟩
   refine ⟨_,rfl,_,_,rfl,rfl,⟨by decide,by decide⟩,_,_,rfl,rfl,(by show (0:Int) < 2; decide),rfl,_,rfl,ite2 (fun _=>?_) (fun _=>?_)⟩
   ·refine ⟨_,rfl,.inl ⟨rfl,_,SqL.of hfn⟩,rfl,_,rfl,_,rfl,_,rfl,_,_,rfl,rfl,_,_,rfl,rfl,(by show (0:Int) < 8; decide),_,_,rfl,rfl,_,rfl,D,_,rfl,SqL.of hDz,fun p hp=>⟨p,rfl,⟨_,SqL.new⟩,fun D2 hD2=>?_⟩⟩
    have s2:Same H' (upd H' p (.lst (cutV (zs.map V.int) none (some (1 + (1 + s8 + (0 + (i:Int))) % 8))))):=Same.new hp
    generalize hcut:cutV (zs.map V.int) none (some (1 + (1 + s8 + (0 + (i:Int))) % 8))=cs at s2 hD2 ⊢
    have hcl:cs.length≤8:=by
     rw [← hcut]
     have:=cutV_length (zs.map V.int) none (some (1 + (1 + s8 + (0 + (i:Int))) % 8))
     rw [List.length_map,hzl] at this
     exact this
    refine comp_list (xs:=cs) (MX3 H' p cs D2) ?_ ?_ ?_ ?_ ?_
    ·exact ⟨[],none,Same.new hD2,upd_same,rfl,(fun y hy=>nomatch hy),rfl,rfl⟩
    ·rintro j σ ys H3 hj ⟨ss,v,s3,hD3,rfl,_,hl,rfl⟩
     exact ⟨s3.seq SqL.new,hD3,by rw [List.length_map,hl]; exact Nat.le_refl _⟩
    ·exact Nat.le_of_lt (small1000 (by lia))
    ·rintro j y σ ys H3 hy ⟨ss,v,s3,hD3,rfl,h1',hl,rfl⟩
     have hyc:y∈zs.map V.int:=cut_mem (by rw [hcut]; exact List.mem_of_getElem? hy)
     obtain ⟨z,hzm,rfl⟩:=List.mem_map.mp hyc
     obtain ⟨ch,hch⟩:=letter_at (hz z hzm).1 (hz z hzm).2
     refine ⟨_,rfl,_,rfl,_,_,ch,rfl,rfl,letters_len,hch,hD3,ss ++ [_],_,Same.at hD2 s3,upd_same,by rw [List.map_append]; rfl,fun y hy'=>?_,by rw [List.length_append,hl]; rfl,rfl⟩
     rcases List.mem_append.mp hy' with hy' | hy'
     ·exact h1' y hy'
     ·rw [List.mem_singleton.mp hy']; exact Nat.le_refl 1
    ·rintro σ ys H3 ⟨ss,v,s3,hD3,rfl,h1',hl,rfl⟩
     refine ⟨_,D2,ss,rfl,rfl,SqL.of hD3,joinOk_of (B:=1) h1' (by show ss.length * 1 + ss.length * 0≤16777216; lia),?_⟩
     have s4:=s2.trans s3
     refine ⟨f,_,_,rfl,rfl,s4 _ _ hfn,hzf,?_⟩
     obtain ⟨ns',_,_,g1,g2,g3,g4,_⟩:=fin (Str.join "" ss) s4
     exact ⟨ns',_,_,g1,g2,g3,g4,rfl⟩
   ·refine ⟨_,rfl,_,rfl,by lia,by lia,fun D2 hD2=>?_⟩
    refine comp_range (n:=(1 + s8).toNat) (MX4 H' D2 D i at_) ?_ ?_ ?_ ?_ ?_
    ·exact ⟨[],none,Same.new hD2,upd_same,rfl,(fun y hy=>nomatch hy),rfl,rfl⟩
    ·rintro j σ ys H3 hj ⟨ss,v,s3,hD3,rfl,_,hl,rfl⟩
     exact ⟨hD3,by rw [List.length_map,hl]; exact Nat.le_refl _⟩
    ·exact Nat.le_of_lt (small1000 (by lia))
    ·rintro j σ ys H3 hj ⟨ss,v,s3,hD3,rfl,h1',hl,rfl⟩
     have hj8:j < zs.length:=by lia
     have ix:atI (zs.map V.int) (0 + (j:Int))=some (.int zs[j]):=by
      have e:(0:Int) + (j:Int)=(j:Int):=by lia
      rw [e]
      exact atI_nat (by rw [List.getElem?_map,List.getElem?_eq_getElem hj8]; rfl)
     have key:∀ m:Int,∃ ch,atI letters.cps.toList (m % 26)=some ch:=fun m=>letter_at (Int.emod_nonneg _ (by decide)) (Int.emod_lt_of_pos _ (by decide))
     refine ⟨_,rfl,_,rfl,_,rfl,D,_,_,_,rfl,rfl,SqL.of (s3 _ _ hDz),ix,_,rfl,_,rfl,_,rfl,rfl,.inr ⟨_,rfl,_,_,rfl,rfl,.inl (.inl ⟨by lia,by lia⟩),_,_,rfl,rfl,_,_,rfl,rfl,(by show (0:Int) < 26; decide),_,_,(key _).choose,rfl,rfl,letters_len,(key _).choose_spec,hD3,ss ++ [_],_,Same.at hD2 s3,upd_same,by rw [List.map_append]; rfl,fun y hy'=>?_,by rw [List.length_append,hl]; rfl,rfl⟩⟩
     rcases List.mem_append.mp hy' with hy' | hy'
     ·exact h1' y hy'
     ·rw [List.mem_singleton.mp hy']; exact Nat.le_refl 1
    ·rintro σ ys H3 ⟨ss,v,s3,hD3,rfl,h1',hl,rfl⟩
     refine ⟨_,rfl,.inl ⟨rfl,_,SqL.of (s3 _ _ hfn)⟩,rfl,_,rfl,_,D2,ss,rfl,rfl,SqL.of hD3,joinOk_of (B:=1) h1' (by show ss.length * 1 + ss.length * 0≤16777216; lia),?_⟩
     refine ⟨f,_,_,rfl,rfl,s3 _ _ hfn,hzf,?_⟩
     obtain ⟨ns',_,_,g1,g2,g3,g4,_⟩:=fin (Str.join "" ss) s3
     exact ⟨ns',_,_,g1,g2,g3,g4,rfl⟩
  ·rintro σ H' ⟨ns,v6,v7,s,hDz,hfn,hnl,rfl⟩
   exact ⟨_,rfl,q f ns H' s wf hfn hnl⟩
theorem sc_Lguard:FnScope ["_law_m","_law_names_here","_law_pool"] ["_law_m","_law_names_here","_law_pool"] (defScope s_Lguard):=⟨rfl,rfl,rfl,by decide +kernel,rfl,by decide +kernel,by decide +kernel⟩
theorem ok_Lguard {f:Addr} {fd:FuncData} (F:Fun K "_law_guard" "_law_guard" s_Lguard f fd) (T:Txt K mg) :FnOk P w K mg base CX0 1 f fd ["_law_m","_law_names_here","_law_pool"] (sp_Lguard K):=by
 refine F.ok (k:=0) sc_Lguard (fun vs H Q E h=>?_) (fun cdv A outer s H vs Q E hr h=>?_)
 ·obtain ⟨m,nl,pl,nm,pn,rfl,_⟩:=h
  rfl
 ·obtain ⟨m,nl,pl,nm,pn,rfl,hN,q⟩:=h
  refine ⟨_,(pss_cons (ps_if (pt_cmpR op_lt (pe_op op_mod (pv 0) pe_int) pe_int (nomark _))
   (pss_one (ps_ret pe_non))
   pss_nil)
   (pss_one (ps_ret (pe_tup (pa_cons (pe_ix ix_list (pe_lst (pa_cons pe_str (pa_cons pe_str (pa_cons pe_str pa_nil)))) (pe_op op_sub (pe_op op_mod (pv 0) pe_int) pe_int) (fun _ _=>rfl)) (pa_cons (pe_ix ix_list (pv 1) (pe_op op_add pe_int (pe_op op_mod (pe_op op_fdiv (pv 0) pe_int) pe_int)) (fun _ _=>rfl)) (pa_cons (pe_ix ix_list (pv 2) (pe_op op_mod (pe_op op_fdiv (pv 0) pe_int) pe_int) (fun _ _=>rfl)) pa_nil))))))),?_⟩
  try dsimp only [nox_K]
  have h6:0≤m % 6∧m % 6 < 6:=⟨Int.emod_nonneg _ (by decide),Int.emod_lt_of_pos _ (by decide)⟩
  refine ⟨_,rfl,_,_,rfl,rfl,(by show (0:Int) < 6; decide),_,_,rfl,rfl,_,rfl,ite2 (fun c=>?_) (fun c=>?_)⟩
  ·exact q .non none H (Same.refl _) rfl (fun c hc=>nomatch hc)
  ·have c':¬ m % 6 < 3:=fun z=>c (decide_eq_true z)
   refine ⟨by decide,fun wl hwl=>?_⟩
   obtain ⟨wd,hwd⟩:∃ wd:Str,atI [V.str "when",V.str "unless",V.str "unless"] (m % 6 - 3)=some (.str wd):=by
    rcases (by lia:m % 6=3∨m % 6=4∨m % 6=5) with e | e | e <;> rw [e] <;> exact ⟨_,rfl⟩
   have hN1:=hN.same (Same.new (o:=.lst [V.str "when",V.str "unless",V.str "unless"]) hwl)
   obtain ⟨cu,hcu,ecu⟩:=cup_at5 hN.n3 (m / 6)
   obtain ⟨n,hn⟩:=num_of hN.p4 (z:=m / 18 % 4) (Int.emod_nonneg _ (by decide)) (Int.emod_lt_of_pos _ (by decide))
   refine ⟨_,rfl,_,_,rfl,rfl,(by show (0:Int) < 6; decide),_,_,rfl,rfl,wl,_,_,_,rfl,rfl,SqL.of upd_same,hwd,_,rfl,_,rfl,_,_,rfl,rfl,⟨by decide,by decide⟩,_,_,rfl,rfl,(by show (0:Int) < 3; decide),_,_,rfl,rfl,nl,_,_,_,rfl,rfl,SqL.of hN1.n,ecu,_,rfl,_,rfl,_,_,rfl,rfl,⟨by decide,by decide⟩,_,_,rfl,rfl,(by show (0:Int) < 4; decide),pl,_,_,_,rfl,rfl,SqL.of hN1.p,hn,(by show 3≤sizeLine; decide),fun t ht=>?_⟩
   exact q (.ref t) (some (wd,cu,n)) _ ((Same.new hwl).then ht) ⟨t,rfl,SqT.new⟩ (fun c hc=>by rw [List.mem_singleton.mp hc]; exact hcu)
theorem sc_Ldeed:FnScope ["_law_m","_law_own","_law_names_here","_law_pool","_law_wide","_law_word","_law_place_here","_law_cup","_law_guard_here","_law_number_here"] ["_law_m","_law_own","_law_names_here","_law_pool","_law_wide"] (defScope s_Ldeed):=⟨rfl,rfl,rfl,by decide +kernel,rfl,by decide +kernel,by decide +kernel⟩
theorem ok_Ldeed {f:Addr} {fd:FuncData} (F:Fun K "_law_deed" "_law_deed" s_Ldeed f fd) (T:Txt K mg) (h_Lguard:Has P w K mg base 1 "_law_guard" ["_law_m","_law_names_here","_law_pool"] (sp_Lguard K)):FnOk P w K mg base CX0 2 f fd ["_law_m","_law_own","_law_names_here","_law_pool","_law_wide"] (sp_Ldeed K):=by
 refine F.ok (k:=1) sc_Ldeed (fun vs H Q E h=>?_) (fun cdv A outer s H vs Q E hr h=>?_)
 ·obtain ⟨m,own,nl,pl,nm,pn,wi,rfl,_⟩:=h
  rfl
 ·obtain ⟨m,own,nl,pl,nm,pn,wi,rfl,hN,w1,w4,q⟩:=h
  refine ⟨_,(pss_cons (ps_set (i:=5) sc_Ldeed.nd rfl (Or.inl rfl) (pe_ix ix_list (pe_lst (pa_cons pe_str (pa_cons pe_str (pa_cons pe_str (pa_cons pe_str (pa_cons pe_str (pa_cons pe_str (pa_cons pe_str (pa_cons pe_str pa_nil))))))))) (pe_op op_mod (pv 0) pe_int) (fun _ _=>rfl)))
   (pss_cons (ps_set (i:=6) sc_Ldeed.nd rfl (Or.inl rfl) (pe_ix ix_list (pv 2) (pe_op op_mod (pe_op op_mod (pe_op op_fdiv (pv 0) pe_int) pe_int) (pv 4)) (fun _ _=>rfl)))
   (pss_cons (ps_set (i:=7) sc_Ldeed.nd rfl (Or.inl rfl) (pe_ix ix_list (pv 2) (pe_op op_add pe_int (pe_op op_mod (pe_op op_fdiv (pv 0) pe_int) pe_int)) (fun _ _=>rfl)))
   (pss_cons (ps_set (i:=8) sc_Ldeed.nd rfl (Or.inl rfl) (pe_fn h_Lguard (hr.mono (by decide)) (pa_cons (pe_op op_fdiv (pv 0) pe_int) (pa_cons (pv 2) (pa_cons (pv 3) pa_nil)))))
   (pss_cons (ps_set (i:=9) sc_Ldeed.nd rfl (Or.inl rfl) (pe_ix ix_list (pe_op op_cat (pv 3) (pe_lst (pa_cons (pv 1) pa_nil))) (pe_op op_mod (pe_op op_fdiv (pv 0) pe_int) pe_int) (fun _ _=>rfl)))
   (pss_cons (ps_if (pt_cmpR op_eq (pv 5) pe_str (nomark _))
   (pss_one (ps_ret (pe_tup (pa_cons pe_str (pa_cons (pv 6) (pa_cons (pv 9) (pa_cons (pv 8) pa_nil)))))))
   pss_nil)
   (pss_cons (ps_if (pt_cmpR op_eq (pv 5) pe_str (nomark _))
   (pss_one (ps_ret (pe_tup (pa_cons pe_str (pa_cons (pv 7) (pa_cons (pv 6) (pa_cons (pv 8) pa_nil)))))))
   pss_nil)
   (pss_cons (ps_if (pt_cmpR op_eq (pv 5) pe_str (nomark _))
   (pss_one (ps_ret (pe_tup (pa_cons pe_str (pa_cons (pv 7) (pa_cons (pv 6) (pa_cons (pv 9) (pa_cons (pv 8) pa_nil))))))))
   pss_nil)
   (pss_one (ps_ret (pe_tup (pa_cons (pv 5) (pa_cons (pv 8) pa_nil))))))))))))),?_⟩
  try dsimp only [nox_K]
  refine ⟨by decide,fun wl hwl=>?_⟩
  obtain ⟨wd,hwd,hwc⟩:=word_of (z:=m % 8) (Int.emod_nonneg _ (by decide)) (Int.emod_lt_of_pos _ (by decide))
  have s1:Same H (upd H wl (.lst (words.map V.str))):=Same.new hwl
  have hN1:=hN.same s1
  obtain ⟨pc,hpc,epc⟩:=place_at5 hN.n3 (m / 8 % 12) w1 w4
  obtain ⟨cu,hcu,ecu⟩:=cup_at5 hN.n3 (m / 96)
  refine ⟨_,rfl,_,_,rfl,rfl,(by show (0:Int) < 8; decide),wl,_,_,_,rfl,rfl,SqL.of upd_same,hwd,?_⟩
  refine ⟨_,rfl,_,rfl,_,_,rfl,rfl,⟨by decide,by decide⟩,_,_,rfl,rfl,(by show (0:Int) < 12; decide),_,rfl,_,_,rfl,rfl,(by show (0:Int) < wi; lia),nl,_,_,_,rfl,rfl,SqL.of hN1.n,epc,?_⟩
  refine ⟨_,rfl,_,rfl,_,_,rfl,rfl,⟨by decide,by decide⟩,_,_,rfl,rfl,(by show (0:Int) < 3; decide),_,_,rfl,rfl,nl,_,_,_,rfl,rfl,SqL.of hN1.n,ecu,?_⟩
  refine ⟨_,rfl,_,_,rfl,rfl,⟨by decide,by decide⟩,_,rfl,_,rfl,_,nl,pl,nm,pn,rfl,hN1,fun gv g H2 s2 hg hga=>?_⟩
  have hN2:=hN1.same s2
  refine ⟨_,rfl,_,rfl,(by show 1≤sizeLine; decide),fun ol hol=>?_⟩
  have s3:Same H2 (upd H2 ol (.lst [V.int own])):=Same.new hol
  refine ⟨pl,ol,_,_,rfl,rfl,s3 _ _ hN2.p,upd_same,(by rw [List.length_map,hN.p4]; show 5≤sizeLine; decide),fun sm hsm=>?_⟩
  have s4:Same H (upd (upd H2 ol (.lst [V.int own])) sm (.lst (pn.map V.int ++ [V.int own]))):=((s1.trans s2).trans s3).then hsm
  have hg4:=hg.same (s3.then (o:=.lst (pn.map V.int ++ [V.int own])) hsm)
  obtain ⟨n,hn⟩:=num_of (pn:=pn ++ [own]) (n:=5) (by rw [List.length_append,hN.p4]; rfl) (z:=m / 1244160 % 5) (Int.emod_nonneg _ (by decide)) (Int.emod_lt_of_pos _ (by decide))
  rw [List.map_append] at hn
  refine ⟨_,rfl,_,_,rfl,rfl,⟨by decide,by decide⟩,_,_,rfl,rfl,(by show (0:Int) < 5; decide),sm,_,_,_,rfl,rfl,SqL.of upd_same,hn,?_⟩
  generalize upd (upd H2 ol (.lst [V.int own])) sm (.lst (pn.map V.int ++ [V.int own]))=H4 at s4 hg4 ⊢
  have fin:∀ (t:Addr) (d:Deed),H4 t=none→d.guard=gv→(∀ z∈spot d,z∈nm.take 4)→(∀ z∈fill d,z∈nm.drop 2)→Q (.ref t) (upd H4 t (.tup d.items)):=fun t d ht hd h1 h2 =>
   q ⟨t,d,g⟩ _ (s4.then ht) ⟨SqT.new,gok_of (by rw [hd]; exact hg4.same (Same.new ht))⟩ h1 h2 hga
  rcases hwc with rfl | rfl | rfl | rfl | rfl
  ·exact ⟨_,rfl,rfl,_,rfl,ifT (by decide +kernel) ⟨_,rfl,_,rfl,_,rfl,(by show 4≤sizeLine; decide),fun t ht=>fin t (.put pc n gv) ht rfl (fun z hz=>by rw [List.mem_singleton.mp hz]; exact hpc) (fun z hz=>nomatch hz)⟩⟩
  ·exact ⟨_,rfl,rfl,_,rfl,ifF (by decide +kernel) ⟨_,rfl,rfl,_,rfl,ifT (by decide +kernel) ⟨_,rfl,_,rfl,_,rfl,(by show 4≤sizeLine; decide),fun t ht=>fin t (.get cu pc gv) ht rfl (fun z hz=>by rw [List.mem_singleton.mp hz]; exact hpc) (fun z hz=>by rw [List.mem_singleton.mp hz]; exact hcu)⟩⟩⟩
  ·exact ⟨_,rfl,rfl,_,rfl,ifF (by decide +kernel) ⟨_,rfl,rfl,_,rfl,ifF (by decide +kernel) ⟨_,rfl,rfl,_,rfl,ifT (by decide +kernel) ⟨_,rfl,_,rfl,_,rfl,_,rfl,(by show 5≤sizeLine; decide),fun t ht=>fin t (.swap cu pc n gv) ht rfl (fun z hz=>by rw [List.mem_singleton.mp hz]; exact hpc) (fun z hz=>by rw [List.mem_singleton.mp hz]; exact hcu)⟩⟩⟩⟩
  ·exact ⟨_,rfl,rfl,_,rfl,ifF (by decide +kernel) ⟨_,rfl,rfl,_,rfl,ifF (by decide +kernel) ⟨_,rfl,rfl,_,rfl,ifF (by decide +kernel) ⟨_,rfl,_,rfl,(by show 2≤sizeLine; decide),fun t ht=>fin t (.fence gv) ht rfl (fun z hz=>nomatch hz) (fun z hz=>nomatch hz)⟩⟩⟩⟩
  ·exact ⟨_,rfl,rfl,_,rfl,ifF (by decide +kernel) ⟨_,rfl,rfl,_,rfl,ifF (by decide +kernel) ⟨_,rfl,rfl,_,rfl,ifF (by decide +kernel) ⟨_,rfl,_,rfl,(by show 2≤sizeLine; decide),fun t ht=>fin t (.bar gv) ht rfl (fun z hz=>nomatch hz) (fun z hz=>nomatch hz)⟩⟩⟩⟩
theorem sc_Lholds:FnScope ["_law_guard_here","_law_held"] ["_law_guard_here","_law_held"] (defScope s_Lholds):=⟨rfl,rfl,rfl,by decide +kernel,rfl,by decide +kernel,by decide +kernel⟩
theorem ok_Lholds {f:Addr} {fd:FuncData} (F:Fun K "_law_holds" "_law_holds" s_Lholds f fd) (T:Txt K mg) :FnOk P w K mg base CX0 1 f fd ["_law_guard_here","_law_held"] (sp_Lholds K):=by
 refine F.ok (k:=0) sc_Lholds (fun vs H Q E h=>?_) (fun cdv A outer s H vs Q E hr h=>?_)
 ·obtain ⟨g,d,kvs,go,rfl,_⟩:=h
  rfl
 ·obtain ⟨g,d,kvs,go,rfl,hd,hi,h,q⟩:=h
  have hu:=hu_of hr
  refine ⟨_,(pss_cons (ps_if (pt_cmpR op_isN (pv 0) pe_non (nomark _))
   (pss_one (ps_ret pe_bl))
   pss_nil)
   (pss_one (ps_ret (pe_cmpR op_eq (pe_cmpR op_eq (pe_dget2 hu (pv 1) (pe_ix ix_tup (pv 0) pe_int (fun _ _=>rfl)) pe_int ⟨rfl,rfl,rfl,rfl⟩) (pe_ix ix_tup (pv 0) pe_int (fun _ _=>rfl)) (nomark _)) (pe_cmpR op_eq (pe_ix ix_tup (pv 0) pe_int (fun _ _=>rfl)) pe_str (nomark _)) (nomark _))))),?_⟩
  try dsimp only [nox_K]
  rcases go with _ | ⟨wd,c,n⟩
  ·cases (show g=.non from h)
   exact ⟨_,rfl,rfl,_,rfl,ifDt rfl q⟩
  ·obtain ⟨p,rfl,hp⟩:=h
   have q:Q (.bl (holdsV wd (thereV kvs c) n)) H:=q
   obtain ⟨m,hm⟩:=there_int hi c
   refine ⟨_,rfl,rfl,_,rfl,ifDf (fun z=>nomatch z) ?_⟩
   have hm':(valV kvs (Sum.inr c:Key)).getD (.int 0)=.int m:=hm
   refine ⟨_,rfl,d,rfl,.inl ⟨kvs,.inl hd⟩,_,rfl,p,_,_,_,rfl,rfl,hp,rfl,_,DGet.k (k:=Sum.inr c) hd,_,rfl,p,_,_,_,rfl,rfl,hp,rfl,?_,?_⟩
   ·show scal ((valV kvs (Sum.inr c:Key)).getD (.int 0)) (.int n)=true
    rw [hm']; rfl
   ·refine ⟨_,rfl,p,_,_,_,rfl,rfl,hp,rfl,rfl,rfl,qb q ?_⟩
    unfold holdsV
    by_cases e:wd="when"
    ·rw [if_pos e]; simp [e,thereV]; exact decide_eq_decide.mpr Iff.rfl
    ·rw [if_neg e]; simp [e,thereV]; exact decide_eq_decide.mpr Iff.rfl
end
end Own
set_option Elab.async false
set_option linter.all false
set_option maxRecDepth 100000
set_option maxHeartbeats 4100000
namespace Own
open PySem L2
inductive Sp_Lprogram (K:PySem.W.Frag) (vs:List V) (H:Hp) (Q:VK) (E_:XK):Prop
 | mk (a:Addr) (nl:Addr) (ns:List Int) (nm:List Str) (h0_:vs=[.ref a,.ref nl]) (h1_:SqL K H a (ns.map V.int)) (h2_:ns.length≤63) (h3_:(∀ i∈ns,Fair i)) (h4_:H nl=some (.lst (nm.map V.str))) (h5_:nm.length=5) (h6_:∀ (p:Addr) (hs:Hands) (S C:List Str) (H':Hp),Same H H'→H p=none→IsProg K H' p hs→Good S C hs→0 < hs.length→(hs.map fun h=>h.2.length).sum≤40→Q (.ref p) H'):Sp_Lprogram K vs H Q E_
noncomputable def sp_Lprogram (K:PySem.W.Frag):Sp:=Sp_Lprogram K
theorem sum_set:∀ {hs:Hands} {r:Nat} {h:Addr×List DD},hs[r]?=some h→∀ x:DD,((hs.set r (h.1,h.2 ++ [x])).map fun h=>h.2.length).sum=(hs.map fun h=>h.2.length).sum + 1
 | [],r,h,e,x=>by simp at e
 | y :: hs,0,h,e,x=>by
  simp at e
  subst e
  simp
  lia
 | y :: hs,r + 1,h,e,x=>by
  simp only [List.getElem?_cons_succ] at e
  have:=sum_set e x
  simp only [List.set_cons_succ,List.map_cons,List.sum_cons]
  lia
noncomputable def SameEx (as:List Addr) (H H':Hp):Prop:=∀ b u,b ∉ as→H b=some u→H' b=some u
theorem SameEx.seq {K:PySem.W.Frag} {as:List Addr} {H H':Hp} {a:Addr} {xs:List V} (s:SameEx as H H') (ha:a ∉ as) (h:SqL K H a xs):SqL K H' a xs:=by
 rcases h with (h | ⟨o,h⟩) | h
 ·exact .inl (.inl (s _ _ ha h))
 ·exact .inl (.inr ⟨o,s _ _ ha h⟩)
 ·exact .inr h
theorem SameEx.then {as:List Addr} {H H1 H2:Hp} (s:SameEx as H H1) (t:Same H1 H2):SameEx as H H2:=fun b u hb e=>t b u (s b u hb e)
theorem SameEx.put {as:List Addr} {H H1:Hp} {l:Addr} {o:HO} (s:SameEx as H H1) (hl:l∈as):SameEx as H (upd H1 l o):=fun b u hb e=>by
 rw [upd_ne (fun (z:b=l)=>hb (z ▸ hl))]
 exact s b u hb e
theorem nodup_inj {as:List Addr} (h:as.Nodup):∀ {i j:Nat} {a:Addr},as[i]?=some a→as[j]?=some a→i=j:=by
 induction as with
 | nil=>intro i j a e; simp at e
 | cons x as ih =>
  obtain ⟨n1,n2⟩:=List.nodup_cons.mp h
  intro i j a e1 e2
  cases i with
  | zero =>
   cases j with
   | zero=>rfl
   | succ j =>
    simp at e1 e2
    exact absurd (e1 ▸ List.mem_of_getElem? e2) n1
  | succ i =>
   cases j with
   | zero =>
    simp at e1 e2
    exact absurd (e2 ▸ List.mem_of_getElem? e1) n1
   | succ j =>
    simp at e1 e2
    rw [ih n2 e1 e2]
structure Filling (K:PySem.W.Frag) (H0 H':Hp) (as:List Addr) (S C:List Str) (n:Nat) (p:Addr) (hs:Hands):Prop where
 l:H' p=some (.lst (as.map V.ref))
 eq:hs.map (·.1)=as
 at_:∀ (j:Nat) h,hs[j]?=some h→H' h.1=some (.lst (h.2.map fun x=>V.ref x.a))
 ds:∀ (j:Nat) h,hs[j]?=some h→∀ x∈h.2,IsDeed K H' x∧(∀ z∈spot x.d,z∈S)∧(∀ z∈fill x.d,z∈C)∧(∀ z∈asks x,z∈C)
 len:∀ (j:Nat) h,hs[j]?=some h→h.2.length≤n
 ex:SameEx as H0 H'
 tot:(hs.map fun h=>h.2.length).sum≤n
theorem IsDeed.lset {K:PySem.W.Frag} {H:Hp} {x:DD} {l:Addr} {xs ys:List V} (hl:H l=some (.lst xs)) (h:IsDeed K H x):IsDeed K (upd H l (.lst ys)) x:=by
 refine ⟨SqT.lset hl h.t,?_⟩
 have g:=h.g
 unfold DD.gok at g ⊢
 cases e:x.g with
 | none=>rw [e] at g; exact g
 | some c =>
  rw [e] at g
  obtain ⟨q,h1,h2⟩:=g
  exact ⟨q,h1,SqT.lset hl h2⟩
section
variable {K:PySem.W.Frag} {H0 H1 H2:Hp} {as:List Addr} {S C:List Str} {n:Nat} {p:Addr} {hs:Hands}
theorem Filling.same (F:Filling K H0 H1 as S C n p hs) (s:Same H1 H2):Filling K H0 H2 as S C n p hs :=
 ⟨s _ _ F.l,F.eq,fun j h e=>s _ _ (F.at_ j h e),fun j h e x hx=>let ⟨a,b⟩:=F.ds j h e x hx; ⟨a.same s,b⟩,F.len,F.ex.then s,F.tot⟩
theorem Filling.more (F:Filling K H0 H1 as S C n p hs) (nd:as.Nodup) (hp:p ∉ as) {r:Nat} {h:Addr×List DD} (e:hs[r]?=some h) {x:DD} (hx:IsDeed K H1 x) (h1:∀ z∈spot x.d,z∈S) (h2:∀ z∈fill x.d,z∈C) (h3:∀ z∈asks x,z∈C) :
  Filling K H0 (upd H1 h.1 (.lst ((h.2.map fun x=>V.ref x.a) ++ [V.ref x.a]))) as S C (n + 1) p (hs.set r (h.1,h.2 ++ [x])):=by
 have hr:r < hs.length:=(List.getElem?_eq_some_iff.mp e).1
 have hh:=F.at_ r h e
 have ha:as[r]?=some h.1:=by rw [← F.eq,List.getElem?_map,e]; rfl
 have hm:h.1∈as:=List.mem_of_getElem? ha
 have at2:∀ (j:Nat) h',(hs.set r (h.1,h.2 ++ [x]))[j]?=some h'→(j=r∧h'=(h.1,h.2 ++ [x]))∨(j≠r∧hs[j]?=some h'):=fun j h' e'=>by
  rw [List.getElem?_set] at e'
  by_cases c:r=j
  ·rw [if_pos c,if_pos (c ▸ hr)] at e'
   exact .inl ⟨c.symm,(Option.some.inj e').symm⟩
  ·rw [if_neg c] at e'
   exact .inr ⟨fun z=>c z.symm,e'⟩
 refine ⟨?_,?_,fun j h' e'=>?_,fun j h' e' y hy=>?_,fun j h' e'=>?_,F.ex.put hm,?_⟩
 ·rw [upd_ne (fun (z:p=h.1)=>hp (z ▸ hm))]; exact F.l
 ·rw [← F.eq]
  refine List.ext_getElem? fun j=>?_
  rw [List.getElem?_map,List.getElem?_map,List.getElem?_set]
  by_cases c:r=j
  ·rw [if_pos c,if_pos (c ▸ hr),← c,e]; rfl
  ·rw [if_neg c]
 ·rcases at2 j h' e' with ⟨_,rfl⟩ | ⟨hj,e2⟩
  ·rw [upd_same,List.map_append]; rfl
  ·have hne:h'.1≠h.1:=fun z=>hj (nodup_inj nd (by rw [← F.eq,List.getElem?_map,e2]; rfl) (z ▸ ha))
   rw [upd_ne hne]
   exact F.at_ j h' e2
 ·rcases at2 j h' e' with ⟨_,rfl⟩ | ⟨hj,e2⟩
  ·rcases List.mem_append.mp hy with hy | hy
   ·obtain ⟨a,b⟩:=F.ds r h e y hy
    exact ⟨a.lset hh,b⟩
   ·rw [List.mem_singleton.mp hy]
    exact ⟨hx.lset hh,h1,h2,h3⟩
  ·obtain ⟨a,b⟩:=F.ds j h' e2 y hy
   exact ⟨a.lset hh,b⟩
 ·rcases at2 j h' e' with ⟨_,rfl⟩ | ⟨hj,e2⟩
  ·have:=F.len r h e
   show (h.2 ++ [x]).length≤n + 1
   rw [List.length_append,List.length_singleton]
   lia
  ·have:=F.len j h' e2
   lia
 ·have:=F.tot
  have e5:=sum_set e x
  lia
end
theorem fair_getD {ns:List Int} (h:∀ i∈ns,Fair i) (k:Nat):Fair (ns.getD k 0):=by
 rw [List.getD_eq_getElem?_getD]
 cases e:ns[k]? with
 | none=>exact fair0
 | some x=>exact h x (List.mem_of_getElem? e)
inductive II1 (K:PySem.W.Frag) (H2:Hp) (as:List Addr) (nm:List Str) (D:Addr) (a:Addr) (nl:Addr) (pl:Addr) (i:Nat) (σ:St) (H':Hp):Prop
 | mk (hs:Hands) (v4:Option V) (v5:Option V) (v6:Option V) (v7:Option V) (h0_:Filling K H2 H' as (nm.take 4) (nm.drop 2) i D hs) (h1_:σ=[some (.ref a),some (.ref nl),some (.ref pl),some (.ref D),v4,v5,v6,v7]):II1 K H2 as nm D a nl pl i σ H'
section
variable {P:Program} {w:World} {K:PySem.W.Frag} {mg:Str→Option Value} {base:Heap}
theorem sc_Lprogram:FnScope ["_law_script","_law_names_here","_law_pool","_law_made","_law_k","_law_cell","_law_m","_law_wide"] ["_law_script","_law_names_here"] (defScope s_Lprogram):=⟨rfl,rfl,rfl,by decide +kernel,rfl,by decide +kernel,by decide +kernel⟩
theorem ok_Lprogram {f:Addr} {fd:FuncData} (F:Fun K "_law_program" "_law_program" s_Lprogram f fd) (T:Txt K mg) (h_Lnumber:Has P w K mg base 1 "_law_number" ["_law_cell"] (sp_Lnumber K)) (h_Lsize:Has P w K mg base 2 "_law_size" ["_law_script"] (sp_Lsize K)) (h_Lcellat:Has P w K mg base 1 "_law_cell_at" ["_law_script","_law_k"] (sp_Lcellat K)) (h_Lmixed:Has P w K mg base 1 "_law_mixed" ["_law_cell","_law_k"] (sp_Lmixed K)) (h_Ldeed:Has P w K mg base 2 "_law_deed" ["_law_m","_law_own","_law_names_here","_law_pool","_law_wide"] (sp_Ldeed K)):FnOk P w K mg base CX0 3 f fd ["_law_script","_law_names_here"] (sp_Lprogram K):=by
 refine F.ok (k:=2) sc_Lprogram (fun vs H Q E h=>?_) (fun cdv A outer s H vs Q E hr h=>?_)
 ·obtain ⟨a,nl,ns,nm,rfl,_⟩:=h
  rfl
 ·obtain ⟨a,nl,ns,nm,rfl,hS,hn,hfair,hnl1,n3,q⟩:=h
  refine ⟨_,(pss_cons (ps_set (i:=2) sc_Lprogram.nd rfl (Or.inl rfl) (pe_lst (pa_cons pe_int (pa_cons pe_int (pa_cons (pe_fn h_Lnumber (hr.mono (by decide)) (pa_cons (pe_fn h_Lcellat (hr.mono (by decide)) (pa_cons (pv 0) (pa_cons pe_int pa_nil))) pa_nil)) (pa_cons (pe_op op_fdiv (pe_fn h_Lnumber (hr.mono (by decide)) (pa_cons (pe_fn h_Lcellat (hr.mono (by decide)) (pa_cons (pv 0) (pa_cons pe_int pa_nil))) pa_nil)) pe_int) pa_nil))))))
   (pss_cons (ps_comp (i:=3) (Nc:=["_law_h"]) (nt:=1) (js:=[]) rfl sc_Lprogram.nd rfl rfl ⟨rfl,rfl,rfl,rfl,.nil,rfl,⟨["_law_h"],[],rfl,rfl,.nil⟩⟩ (pi_range1 rfl T.n_range (pa_cons (pe_op op_add pe_int (pe_op op_mod (pe_fn h_Lcellat (hr.mono (by decide)) (pa_cons (pv 0) (pa_cons pe_int pa_nil))) pe_int)) pa_nil)) (fun C s3 H3 fp pins=>⟨(pg_name (i:=0) (show (["_law_h"]:List Str).Nodup by decide +kernel) rfl (Or.inl rfl)),pts_nil,(pe_lst pa_nil)⟩))
   (pss_cons (ps_for PassesOwn.never rfl (pi_range1 rfl T.n_range (pa_cons (pe_fn h_Lsize (hr.mono (by decide)) (pa_cons (pv 0) pa_nil)) pa_nil)) (pg_name (i:=4) sc_Lprogram.nd rfl (Or.inl rfl))
   (pss_cons (ps_set (i:=5) sc_Lprogram.nd rfl (Or.inl rfl) (pe_fn h_Lcellat (hr.mono (by decide)) (pa_cons (pv 0) (pa_cons (pe_op op_add pe_int (pv 4)) pa_nil))))
   (pss_cons (ps_set (i:=6) sc_Lprogram.nd rfl (Or.inl rfl) (pe_fn h_Lmixed (hr.mono (by decide)) (pa_cons (pv 5) (pa_cons (pv 4) pa_nil))))
   (pss_cons (ps_set (i:=7) sc_Lprogram.nd rfl (Or.inl rfl) (pe_op op_add pe_int (pe_op op_mod (pe_fn h_Lcellat (hr.mono (by decide)) (pa_cons (pv 0) (pa_cons pe_int pa_nil))) pe_int)))
   (pss_one (ps_expr (pe_bm PySem.F.plainAttrs_list PySem.F.slot_list_append PySem.F.type_list_append mt_append (pe_ix ix_list (pv 3) (pe_op op_mod (pe_op op_mod (pe_op op_fdiv (pv 6) pe_int) pe_int) (pe_callB call_len_seq rfl T.n_len bt_len (pa_cons (pv 3) pa_nil))) (fun _ _=>rfl)) (pa_cons (pe_fn h_Ldeed (hr.mono (by decide)) (pa_cons (pv 6) (pa_cons (pe_fn h_Lnumber (hr.mono (by decide)) (pa_cons (pv 5) pa_nil)) (pa_cons (pv 1) (pa_cons (pv 2) (pa_cons (pv 7) pa_nil)))))) pa_nil))))))))
   (pss_one (ps_ret (pv 3)))))),?_⟩
  try dsimp only [nox_K]
  have mk:∀ {Hx Hy:Hp} {D:Addr} {nn:Nat} {F:Hp→Prop} {σc:St},σc=[none]→nn≤10→Hy D=none→(∀ (as:List Addr) Hz,Same Hy Hz→Hz D=some (.lst (as.map V.ref))→as.Nodup→D ∉ as→as.length=nn→(∀ b∈as,Hz b=some (.lst [])∧Hy b=none)→F Hz) →
    tLoopC (gName 0) tTrue (tLst tNil) σc D (Itr 0 nn) Hy F:=fun {Hx Hy D nn F σc} hσ hnn hD fin=>by
   subst hσ
   refine comp_range (fun i σ ys H3=>Ex_2_8 (fun (as:List Addr) (v:Option V)=>Same Hy H3) (fun as v=>H3 D=some (.lst ys)) (fun as v=>ys=as.map V.ref) (fun as v=>as.Nodup) (fun as v=>D ∉ as) (fun as v=>as.length=i) (fun as v=>(∀ b∈as,H3 b=some (.lst [])∧Hy b=none)) (fun as v=>σ=[v])) ?_ ?_ ?_ ?_ ?_
   ·exact ⟨[],none,Same.new hD,upd_same,rfl,List.nodup_nil,(fun z=>by cases z),rfl,(fun b hb=>by cases hb),rfl⟩
   ·rintro i σ ys H3 hi ⟨as,v,s3,hD3,rfl,nd,hDn,hl3,hb,rfl⟩
    exact ⟨hD3,by rw [List.length_map]; lia⟩
   ·exact Nat.le_of_lt (small1000 (by lia))
   ·rintro i σ ys H3 hi ⟨as,v,s3,hD3,rfl,nd,hDn,hl3,hb,rfl⟩
    refine ⟨by decide,fun t ht=>?_⟩
    have hta:t ∉ as:=fun z=>by rw [(hb t z).1] at ht; cases ht
    have hDt:D≠t:=ne_of_none hD3 ht
    refine ⟨by rw [upd_ne hDt]; exact hD3,as ++ [t],_,Same.at hD (s3.then ht),upd_same,by rw [List.map_append]; rfl,nd_snoc nd hta,fun z=>?_,by rw [List.length_append,hl3]; rfl,fun b hb'=>?_,rfl⟩
    ·rcases List.mem_append.mp z with z | z
     ·exact hDn z
     ·exact hDt (List.mem_singleton.mp z)
    ·rcases List.mem_append.mp hb' with z | z
     ·have hbt:b≠t:=fun e=>hta (e ▸ z)
      have hbD:b≠D:=fun e=>hDn (e ▸ z)
      rw [upd_ne hbD,upd_ne hbt]
      exact hb b z
     ·have e:=List.mem_singleton.mp z
      subst e
      rw [upd_ne (Ne.symm hDt),upd_same]
      exact ⟨rfl,s3.free ht⟩
   ·rintro σ ys H3 ⟨as,v,s3,hD3,rfl,nd,hDn,hl3,hb,rfl⟩
    exact fin as H3 s3 hD3 nd hDn hl3 hb
  have s1:Same H H:=Same.refl _
  have hS1:=s1.seq hS
  refine ⟨_,rfl,a,ns,2,rfl,hS1,by decide,_,rfl,fair_getD hfair _,fun n2=>⟨_,rfl,a,ns,3,rfl,hS1,by decide,_,rfl,fair_getD hfair _,fun n3'=>⟨_,_,rfl,rfl,⟨by decide,by decide⟩,(by show 4≤sizeLine; decide),fun pl hpl=>?_⟩⟩⟩
  have N1:Named (upd H pl (.lst [V.int 0,V.int 1,V.int n2,V.int (n3' / 3)])) nl pl nm [0,1,n2,n3' / 3]:=⟨(Same.new hpl) _ _ hnl1,n3,upd_same,rfl⟩
  have s1':Same H (upd H pl (.lst [V.int 0,V.int 1,V.int n2,V.int (n3' / 3)])):=s1.then hpl
  obtain ⟨pn,hpn⟩:∃ pn,pn=[0,1,n2,n3' / 3]:=⟨_,rfl⟩
  rw [← hpn] at N1
  have hS1':=s1'.seq hS
  have h6:0≤ns.getD (0:Int).toNat 0 % 6∧ns.getD (0:Int).toNat 0 % 6 < 6:=⟨Int.emod_nonneg _ (by decide),Int.emod_lt_of_pos _ (by decide)⟩
  refine ⟨_,rfl,a,ns,0,rfl,hS1',by decide,_,_,rfl,rfl,(by show (0:Int) < 6; decide),_,_,rfl,rfl,_,rfl,by lia,by lia,fun D hD=>mk (Hx:=H) rfl (by lia) hD fun as H2 s2 hD2 nd hDn hla hb=>?_⟩
  have s02:=s1'.trans s2
  have hS2:=s02.seq hS
  have nlas:nl ∉ as:=fun z=>by have:=(hb nl z).2; rw [N1.n] at this; cases this
  have plas:pl ∉ as:=fun z=>by have:=(hb pl z).2; rw [N1.p] at this; cases this
  have hla1:0 < as.length:=by lia
  have hla6:as.length≤6:=by lia
  refine ⟨_,rfl,a,ns,rfl,hS2,hn,fun N hN0 hN40=>⟨_,rfl,by lia,by lia,for_range (n:=N.toNat) (II1 K H2 as nm D a nl pl) ?_ ?_ ?_⟩⟩
  ·refine ⟨as.map fun b=>(b,[]),none,none,none,none,⟨hD2,?_,fun j h e=>?_,fun j h e x hx=>?_,fun j h e=>?_,fun b u _ e=>e,?_⟩,rfl⟩
   ·rw [List.map_map]; exact List.map_id' as
   ·obtain ⟨b,hb6,e2⟩:∃ b,as[j]?=some b∧h=(b,[]):=by
     rw [List.getElem?_map] at e
     cases e3:as[j]? with
     | none=>rw [e3] at e; cases e
     | some b=>rw [e3] at e; exact ⟨b,rfl,(Option.some.inj e).symm⟩
    rw [e2]
    exact (hb b (List.mem_of_getElem? hb6)).1
   ·have e2:h.2=[]:=by
     rw [List.getElem?_map] at e
     cases e3:as[j]? with
     | none=>rw [e3] at e; cases e
     | some b=>rw [e3] at e; rw [← Option.some.inj e]
    rw [e2] at hx
    cases hx
   ·have e2:h.2=[]:=by
     rw [List.getElem?_map] at e
     cases e3:as[j]? with
     | none=>rw [e3] at e; cases e
     | some b=>rw [e3] at e; rw [← Option.some.inj e]
    rw [e2]
    exact Nat.le_refl _
   ·rw [List.map_map]
    have:∀ l:List Addr,(l.map ((fun h:Addr×List DD=>h.2.length) ∘ fun b=>(b,[]))).sum=0:=fun l=>by
     induction l with
     | nil=>rfl
     | cons y l ih=>rw [List.map_cons,List.sum_cons,ih]; rfl
    rw [this]
    exact Nat.le_refl _
  ·rintro i σ H' hi ⟨hs,v4,v5,v6,v7,F,rfl⟩
   have hSx:∀ {Hx:Hp},SameEx as H2 Hx→SqL K Hx a (ns.map V.int):=fun ex=>by
    rcases hS with (h | ⟨o,h⟩) | h
    ·exact .inl (.inl (ex _ _ (fun z=>by have:=(hb a z).2; rw [s1' _ _ h] at this; cases this) (s02 _ _ h)))
    ·exact .inl (.inr ⟨o,ex _ _ (fun z=>by have:=(hb a z).2; rw [s1' _ _ h] at this; cases this) (s02 _ _ h)⟩)
    ·exact .inr h
   have hNx:Named H' nl pl nm pn:=⟨F.ex _ _ nlas (s2 _ _ N1.n),n3,F.ex _ _ plas (s2 _ _ N1.p),N1.p4⟩
   refine ⟨_,rfl,_,rfl,_,_,rfl,rfl,a,ns,_,rfl,hSx F.ex,by lia,?_⟩
   have hfc:=fair_getD hfair (4 + (0 + (i:Int))).toNat
   generalize ns.getD (4 + (0 + (i:Int))).toNat 0=cell at hfc
   refine ⟨_,rfl,_,rfl,_,_,rfl,by lia,by lia,fun m hm0=>?_⟩
   have hq0:0≤m / 288 % 60 % (as.length:Int):=Int.emod_nonneg _ (by lia)
   have hq1:m / 288 % 60 % (as.length:Int) < (as.length:Int):=Int.emod_lt_of_pos _ (by lia)
   obtain ⟨j,ej0⟩:=Int.eq_ofNat_of_zero_le hq0
   have hjl:j < hs.length:=by
    have:hs.length=as.length:=by rw [← F.eq,List.length_map]
    lia
   have ej:hs[j]?=some hs[j]:=List.getElem?_eq_getElem hjl
   have ea:as[j]?=some hs[j].1:=by rw [← F.eq,List.getElem?_map,ej]; rfl
   have eix:atI (as.map V.ref) (m / 288 % 60 % ((as.map V.ref).length:Int))=some (.ref hs[j].1):=by
    rw [List.length_map,ej0]
    exact atI_nat (by rw [List.getElem?_map,ea]; rfl)
   have hh:=F.at_ j _ ej
   have h4:0≤ns.getD (2:Int).toNat 0 % 4∧ns.getD (2:Int).toNat 0 % 4 < 4:=⟨Int.emod_nonneg _ (by decide),Int.emod_lt_of_pos _ (by decide)⟩
   refine ⟨_,rfl,a,ns,2,rfl,hSx F.ex,by decide,_,_,rfl,rfl,(by show (0:Int) < 4; decide),_,_,rfl,rfl,?_⟩
   refine ⟨_,rfl,_,rfl,_,_,rfl,rfl,⟨by decide,by decide⟩,_,_,rfl,rfl,(by show (0:Int) < 60; decide),_,rfl,D,_,rfl,.inl (SqL.of F.l),_,_,rfl,rfl,(by show (0:Int) < ((as.map V.ref).length:Int); rw [List.length_map]; lia),D,_,_,_,rfl,rfl,SqL.of F.l,eix,?_⟩
   refine ⟨.inl ⟨rfl,_,SqL.of hh⟩,_,rfl,_,rfl,cell,rfl,hfc,fun n=>⟨_,rfl,_,rfl,_,rfl,m,n,nl,pl,nm,pn,_,rfl,hNx,by lia,by lia,fun x H3 s3 hx h1 h2 h3=>?_⟩⟩
   have F3:=F.same s3
   have hh3:=F3.at_ j _ ej
   have hz3:(hs[j].2.map fun x=>V.ref x.a).length < sizeLine:=by
    have:=F3.len j _ ej
    rw [List.length_map]; exact small1000 (by lia)
   exact ⟨hs[j].1,_,_,rfl,rfl,hh3,hz3,_,_,_,_,_,F3.more nd hDn ej (x:=x) hx h1 h2 h3,rfl⟩
  ·rintro σ H' ⟨hs,v4,v5,v6,v7,F,rfl⟩
   have hlen:hs.length=as.length:=by rw [← F.eq,List.length_map]
   have hnn:N.toNat≤40:=by lia
   refine ⟨_,rfl,q D hs (nm.take 4) (nm.drop 2) H' (fun b u e=>F.ex b u (fun z=>by rw [s1'.free (hb b z).2] at e; cases e) (s02 b u e)) (s1'.free hD) ⟨?_,fun h hm=>?_⟩ ⟨by lia,fun h hm=>?_,fun h hm x hx=>?_,fun h hm x hx=>?_,fun h hm x hx=>?_,by rw [List.length_take]; lia,by rw [List.length_drop]; lia⟩ (by lia) (Nat.le_trans F.tot hnn)⟩
   ·have e:(hs.map fun h=>V.ref h.1)=as.map V.ref:=by rw [← F.eq,List.map_map]; rfl
    rw [e]
    exact SqL.of F.l
   ·obtain ⟨j,e⟩:=List.getElem?_of_mem hm
    exact ⟨SqL.of (F.at_ j h e),fun x hx=>(F.ds j h e x hx).1⟩
   ·obtain ⟨j,e⟩:=List.getElem?_of_mem hm
    exact Nat.le_trans (F.len j h e) hnn
   ·obtain ⟨j,e⟩:=List.getElem?_of_mem hm
    exact (F.ds j h e x hx).2.1
   ·obtain ⟨j,e⟩:=List.getElem?_of_mem hm
    exact (F.ds j h e x hx).2.2.1
   ·obtain ⟨j,e⟩:=List.getElem?_of_mem hm
    exact (F.ds j h e x hx).2.2.2
end
end Own
--#dictT
set_option Elab.async false
set_option linter.all false
set_option maxRecDepth 100000
set_option maxHeartbeats 4100000
namespace Own
open PySem L2
theorem word_pt {d:Deed} (c:pt d=true):wordOf d≠"fence"∧wordOf d≠"bar":=by
 cases d with
 | put x n g=>exact ⟨by show ("put":Str)≠"fence"; decide +kernel,by show ("put":Str)≠"bar"; decide +kernel⟩
 | get c x g=>exact ⟨by show ("get":Str)≠"fence"; decide +kernel,by show ("get":Str)≠"bar"; decide +kernel⟩
 | swap c x n g=>exact ⟨by show ("swap":Str)≠"fence"; decide +kernel,by show ("swap":Str)≠"bar"; decide +kernel⟩
 | fence g=>exact (Bool.false_ne_true c).elim
 | bar g=>exact (Bool.false_ne_true c).elim
theorem word_no {d:Deed} (c:¬ pt d=true):wordOf d="fence"∨wordOf d="bar":=by
 cases d with
 | put x n g=>exact absurd rfl c
 | get c' x g=>exact absurd rfl c
 | swap c' x n g=>exact absurd rfl c
 | fence g=>exact .inl rfl
 | bar g=>exact .inr rfl
theorem guard_at (d:Deed):atI d.items (-1)=some d.guard:=by cases d <;> rfl
theorem cup_word {d:Deed} (h:d.reads=true):wordOf d="get"∨wordOf d="swap":=by
 cases d with
 | put x n g=>exact (Bool.false_ne_true h).elim
 | get c x g=>exact .inl rfl
 | swap c x n g=>exact .inr rfl
 | fence g=>exact (Bool.false_ne_true h).elim
 | bar g=>exact (Bool.false_ne_true h).elim
theorem cup_no {d:Deed} (h:¬ d.reads=true):wordOf d≠"get"∧wordOf d≠"swap":=by
 cases d with
 | put x n g=>exact ⟨by show ("put":Str)≠"get"; decide +kernel,by show ("put":Str)≠"swap"; decide +kernel⟩
 | get c x g=>exact absurd rfl h
 | swap c x n g=>exact absurd rfl h
 | fence g=>exact ⟨by show ("fence":Str)≠"get"; decide +kernel,by show ("fence":Str)≠"swap"; decide +kernel⟩
 | bar g=>exact ⟨by show ("bar":Str)≠"get"; decide +kernel,by show ("bar":Str)≠"swap"; decide +kernel⟩
theorem fill_at {d:Deed} {z:Str} (h:fill d=[z]):atI d.items 1=some (.str z):=by
 cases d <;> first | (cases h; rfl) | cases h
theorem handAt_len {S C:List Str} {hs:Hands} (G:Good S C hs) (i:Nat):(handAt hs i).length≤40:=by
 unfold handAt
 cases e:hs[i]? with
 | none=>exact Nat.zero_le _
 | some h=>exact G.nd h (List.mem_of_getElem? e)
theorem progAll_40 {S C:List Str} {hs:Hands} (G:Good S C hs):∀ i,(progAll hs i).length≤40 * i
 | 0=>Nat.zero_le _
 | i + 1=>by
  have h1:=progAll_40 G i
  have h2:=handAll_len (h:=i) (ds:=handAt hs i) (handAt hs i).length
  have h3:=handAt_len G i
  show (progAll hs i ++ handAll i (handAt hs i) (handAt hs i).length).length≤_
  rw [List.length_append]
  lia
theorem progAll_pt {hs:Hands} {q:Z2×DD}:∀ {i:Nat},q∈progAll hs i→pt q.2.d=true
 | 0,h=>nomatch h
 | i + 1,h=>by
  rcases List.mem_append.mp h with h | h
  ·exact progAll_pt h
  ·obtain ⟨j,_,_,c⟩:=handAll_at h
   exact c
theorem PtsAt.lset {H:Hp} {ps:List TK} {zs:List Z2} {l:Addr} {xs ys:List V} (hl:H l=some (.lst xs)) (h:PtsAt H ps zs):PtsAt (upd H l (.lst ys)) ps zs:=⟨h.eq,fun q hq=>by
 have:=h.at_ q hq
 rw [upd_ne (ne_of this hl (by intro z; cases z))]
 exact this⟩
inductive Sp_Ldeeds (K:PySem.W.Frag) (vs:List V) (H:Hp) (Q:VK) (E_:XK):Prop
 | mk (p:Addr) (hs:Hands) (S:List Str) (C:List Str) (h0_:vs=[.ref p]) (h1_:IsProg K H p hs) (h2_:Good S C hs) (h3_:∀ (d:Addr) (H':Hp),Same H H'→H d=none→H' d=some (.dT (doneK (progAll hs hs.length)))→Q (.ref d) H'):Sp_Ldeeds K vs H Q E_
noncomputable def sp_Ldeeds (K:PySem.W.Frag):Sp:=Sp_Ldeeds K
inductive Sp_Lwrites (K:PySem.W.Frag) (vs:List V) (H:Hp) (Q:VK) (E_:XK):Prop
 | mk (d:Addr) (ds:Done) (pl:Str) (h0_:vs=[.ref d,.str pl]) (h1_:H d=some (.dT (doneK ds))) (h2_:ds.length≤240) (h3_:(ds.map (·.1)).Nodup) (h4_:(∀ q∈ds,IsDeed K H q.2∧pt q.2.d=true)) (h5_:∀ (l:Addr) (ps:List TK) (H':Hp),Same H H'→H l=none→H' l=some (.lst (ps.map fun q=>V.ref q.1))→PtsAt H' ps (writersTo ds pl)→Q (.ref l) H'):Sp_Lwrites K vs H Q E_
noncomputable def sp_Lwrites (K:PySem.W.Frag):Sp:=Sp_Lwrites K
structure NamedK (ds:List DD) (kvs:List (Key×V)):Prop where
 i:Ints kvs
 z:∀ c,thereV kvs c=.int 0
 k:∀ c:Str,(Sum.inr c:Key)∈kvs.map (·.1) ↔ ∃ x∈ds,c∈fill x.d∨c∈asks x
 nd:(kvs.map (·.1)).Nodup
 n:kvs.length≤2 * ds.length
open Classical in
theorem putK_keys {kvs:List (Key×V)} {k:Key} {v:V}:(putK kvs k v).map (·.1)=if k∈kvs.map (·.1) then kvs.map (·.1) else kvs.map (·.1) ++ [k]:=by
 unfold putK
 by_cases c:k∈kvs.map (·.1)
 ·have e:(kvs.any fun kv=>decide (kv.1=k))=true:=by
   obtain ⟨q,hq,e⟩:=List.mem_map.mp c
   exact List.any_eq_true.mpr ⟨q,hq,decide_eq_true e⟩
  rw [if_pos e,if_pos c,List.map_map]
  refine List.map_congr_left fun q _=>?_
  show (if q.1=k then (q.1,v) else q).1=q.1
  split <;> rfl
 ·have e:(kvs.any fun kv=>decide (kv.1=k))=false:=by
   rw [Bool.eq_false_iff]
   intro a
   obtain ⟨q,hq,e⟩:=List.any_eq_true.mp a
   exact c (List.mem_map.mpr ⟨q,hq,of_decide_eq_true e⟩)
  rw [if_neg (by rw [e]; exact Bool.false_ne_true),if_neg c,List.map_append]
  rfl
theorem there_put (kvs:List (Key×V)) (x c:Str) (n:Int):thereV (putK kvs (Sum.inr x) (.int n)) c=if c=x then .int n else thereV kvs c:=by
 unfold thereV
 rw [valV_put]
 by_cases e:c=x
 ·rw [if_pos (by rw [e]),if_pos e]; rfl
 ·rw [if_neg (fun z=>e (Sum.inr.inj z)),if_neg e]
structure NamedP (P:Str→Prop) (n:Nat) (kvs:List (Key×V)):Prop where
 i:Ints kvs
 z:∀ c,thereV kvs c=.int 0
 k:∀ c:Str,(Sum.inr c:Key)∈kvs.map (·.1) ↔ P c
 nd:(kvs.map (·.1)).Nodup
 n:kvs.length≤n
theorem NamedP.put {P P':Str→Prop} {n:Nat} {kvs:List (Key×V)} (h:NamedP P n kvs) (x:Str) (hP:∀ c,P' c ↔ P c∨c=x):NamedP P' (n + 1) (putK kvs (Sum.inr x) (.int 0)):=by
 refine ⟨h.i.put x 0,fun c=>?_,fun c=>?_,?_,?_⟩
 ·rw [there_put]
  split
  ·rfl
  ·exact h.z c
 ·rw [putK_keys,hP c,← h.k c]
  by_cases e:(Sum.inr x:Key)∈kvs.map (·.1)
  ·rw [if_pos e]
   exact ⟨.inl,fun z=>by rcases z with z | z; exact z; rw [z]; exact e⟩
  ·rw [if_neg e,List.mem_append]
   constructor
   ·rintro (z | z)
    ·exact .inl z
    ·exact .inr (Sum.inr.inj (List.mem_singleton.mp z))
   ·rintro (z | z)
    ·exact .inl z
    ·exact .inr (List.mem_singleton.mpr (by rw [z]))
 ·rw [putK_keys]
  by_cases e:(Sum.inr x:Key)∈kvs.map (·.1)
  ·rw [if_pos e]; exact h.nd
  ·rw [if_neg e]; exact nd_snoc h.nd e
 ·have e:=congrArg List.length (putK_keys (kvs:=kvs) (k:=Sum.inr x) (v:=.int 0))
  rw [List.length_map] at e
  have:=h.n
  split at e
  ·rw [List.length_map] at e; lia
  ·rw [List.length_append,List.length_map] at e
   have:([Sum.inr x]:List Key).length=1:=rfl
   lia
theorem NamedP.wider {P P':Str→Prop} {n m:Nat} {kvs:List (Key×V)} (h:NamedP P n kvs) (hP:∀ c,P' c ↔ P c) (hm:n≤m):NamedP P' m kvs:=⟨h.i,h.z,fun c=>by rw [hP c]; exact h.k c,h.nd,Nat.le_trans h.n hm⟩
inductive NI1 (H:Hp) (a d:Addr) (ds:List DD) (i:Nat) (σ:St) (H':Hp):Prop
 | mk (kvs:List (Key×V)) (v2:Option V) (h0_:Same H H') (h1_:H' d=some (.dK kvs)) (h2_:NamedP (fun c=>∃ x∈ds.take i,c∈fill x.d∨c∈asks x) (2 * i) kvs) (h3_:σ=[some (.ref a),some (.ref d),v2]):NI1 H a d ds i σ H'
inductive NI2 (H:Hp) (a d:Addr) (ds:List DD) (x:DD) (i:Nat) (σ:St) (H3:Hp):Prop
 | mk (kvs:List (Key×V)) (h0_:Same H H3) (h1_:H3 d=some (.dK kvs)) (h2_:NamedP (fun c=>(∃ y∈ds.take i,c∈fill y.d∨c∈asks y)∨c∈asks x) (2 * i + 1) kvs) (h3_:σ=[some (.ref a),some (.ref d),some (.ref x.a)]):NI2 H a d ds x i σ H3
inductive Sp_Lnamed (K:PySem.W.Frag) (vs:List V) (H:Hp) (Q:VK) (E_:XK):Prop
 | mk (a:Addr) (ds:List DD) (h0_:vs=[.ref a]) (h1_:IsHand K H a ds) (h2_:ds.length≤40) (h3_:∀ (d:Addr) (kvs:List (Key×V)) (H':Hp),Same H H'→H d=none→H' d=some (.dK kvs)→NamedK ds kvs→Q (.ref d) H'):Sp_Lnamed K vs H Q E_
noncomputable def sp_Lnamed (K:PySem.W.Frag):Sp:=Sp_Lnamed K
section
variable {P:Program} {w:World} {K:PySem.W.Frag} {mg:Str→Option Value} {base:Heap}
theorem sc_Ldeeds:FnScope ["_law_made","_law_found","_law_h","_law_k","_law_deed_here"] ["_law_made"] (defScope s_Ldeeds):=⟨rfl,rfl,rfl,by decide +kernel,rfl,by decide +kernel,by decide +kernel⟩
theorem ok_Ldeeds {f:Addr} {fd:FuncData} (F:Fun K "_law_deeds" "_law_deeds" s_Ldeeds f fd) (T:Txt K mg) :FnOk P w K mg base CX0 1 f fd ["_law_made"] (sp_Ldeeds K):=by
 refine F.ok (k:=0) sc_Ldeeds (fun vs H Q E h=>?_) (fun cdv A outer s H vs Q E hr h=>?_)
 ·obtain ⟨p,hs,S,C,rfl,_⟩:=h
  rfl
 ·obtain ⟨p,hs,S,C,rfl,hP,G,q⟩:=h
  have hu:=hu_of hr
  refine ⟨_,(pss_cons (ps_set (i:=1) sc_Ldeeds.nd rfl (Or.inl rfl) pe_dnewT)
   (pss_cons (ps_for PassesOwn.never rfl (pi_range1 rfl T.n_range (pa_cons (pe_callB call_len_seq rfl T.n_len bt_len (pa_cons (pv 0) pa_nil)) pa_nil)) (pg_name (i:=2) sc_Ldeeds.nd rfl (Or.inl rfl))
   (pss_cons (ps_set (i:=3) sc_Ldeeds.nd rfl (Or.inl rfl) pe_int)
   (pss_one (ps_for PassesOwn.never rfl (pi_list (pe_ix ix_list (pv 0) (pv 2) (fun _ _=>rfl))) (pg_name (i:=4) sc_Ldeeds.nd rfl (Or.inl rfl))
   (pss_one (ps_if (PW.pt (pw_and (pt_cmpR op_ne (pe_ix ix_tup (pv 4) pe_int (fun _ _=>rfl)) pe_str (nomark _)) (pw_and1 (pt_cmpR op_ne (pe_ix ix_tup (pv 4) pe_int (fun _ _=>rfl)) pe_str (nomark _)))))
   (pss_cons (ps_dput hu (pv 1) (pe_tup (pa_cons (pv 2) (pa_cons (pv 3) pa_nil))) (pv 4) rfl)
   (pss_one (ps_set (i:=3) sc_Ldeeds.nd rfl (Or.inl rfl) (pe_op op_add (pv 3) pe_int))))
   pss_nil))))))
   (pss_one (ps_ret (pv 1))))),?_⟩
  dsimp only [nox_K]
  refine fun d hd=>?_
  have hn6:=G.nh
  refine ⟨_,rfl,p,_,rfl,.inl ((Same.new hd).seq hP.l),_,rfl,by lia,by rw [List.length_map]; lia,for_range (n:=((hs.map fun h=>V.ref h.1).length:Int).toNat) (fun i σ H'=>Ex_3_3 (fun (v2 v3 v4:Option V)=>Same H H') (fun v2 v3 v4=>H' d=some (.dT (doneK (progAll hs i)))) (fun v2 v3 v4=>σ=[some (.ref p),some (.ref d),v2,v3,v4])) ?_ ?_ ?_⟩
  ·exact ⟨none,none,none,Same.new hd,upd_same,rfl⟩
  ·rintro i σ Hs hi ⟨v2,v3,v4,s,hds,rfl⟩
   rw [List.length_map] at hi
   have hi':i < hs.length:=by lia
   have hx:hs[i]?=some hs[i]:=List.getElem?_eq_getElem hi'
   generalize hs[i]=hd' at hx
   have hmem:=List.mem_of_getElem? hx
   have n40:=G.nd hd' hmem
   have hH:=hP.hs hd' hmem
   have ix:atI (hs.map fun h=>V.ref h.1) (0 + (i:Int))=some (.ref hd'.1):=by
    have e:(0:Int) + (i:Int)=(i:Int):=by lia
    rw [e]
    exact atI_nat (by rw [List.getElem?_map,hx]; rfl)
   have p40:=progAll_40 G i
   have ris:=progAll_rising hs i
   refine ⟨_,rfl,_,rfl,p,_,_,_,rfl,rfl,s.seq hP.l,ix,hd'.1,rfl,⟨_,s.seq hH.l⟩,for_list (xs:=hd'.2.map fun x=>V.ref x.a) (fun j σ H2=>∃ v4:Option V,Same H H2∧H2 d=some (.dT (doneK (progAll hs i ++ handAll i hd'.2 j)))∧σ=[some (.ref p),some (.ref d),some (.int (0 + (i:Int))),some (.int (npts (hd'.2.take j))),v4]) ?_ ?_ ?_ ?_⟩
   ·exact ⟨_,s,by rw [hds]; show _=some (HO.dT (doneK (progAll hs i ++ []))); rw [List.append_nil],rfl⟩
   ·rintro j σ H2 _ ⟨v4',s2,_⟩
    exact s2.seq hH.l
   ·rintro j y σ H2 hy ⟨v4',s2,hd2,rfl⟩
    obtain ⟨x,hxj,rfl⟩:=refs_get hy
    have hj:j < hd'.2.length:=(List.getElem?_eq_some_iff.mp hxj).1
    have hxd:=(hH.ds x (List.mem_of_getElem? hxj)).same s2
    have enp:=npts_succ hxj
    by_cases c:pt x.d=true
    ·obtain ⟨w1,w2⟩:=word_pt c
     refine ⟨_,rfl,x.a,_,_,_,rfl,rfl,hxd.t,word_at x.d,rfl,_,rfl,ifNt (fun z=>w1 (by injection z)) ?_⟩
     refine ⟨_,rfl,x.a,_,_,_,rfl,rfl,hxd.t,word_at x.d,rfl,_,rfl,ifNt (fun z=>w2 (by injection z)) ?_⟩
     refine ⟨_,rfl,_,rfl,_,rfl,_,rfl,(by show 2≤sizeLine; decide),fun t ht=>?_⟩
     have s3:Same H2 (upd H2 t (.tup [.int (0 + (i:Int)),.int (npts (hd'.2.take j))])):=Same.new ht
     have e0:(0:Int) + (i:Int)=(i:Int):=by lia
     have kt:(upd H2 t (.tup [.int (0 + (i:Int)),.int (npts (hd'.2.take j))])) t=some (.tup ((pk (ptAt i hd'.2 j)).map kV)):=by rw [upd_same,e0]; rfl
     have hal:=handAll_len (h:=i) (ds:=hd'.2) j
     have hlen:(doneK (progAll hs i ++ handAll i hd'.2 j)).length < sizeLine:=by
      unfold doneK
      rw [List.length_map,List.length_append]
      exact small1000 (by lia)
     refine ⟨d,_,rfl,DPut.t (s3 _ _ hd2) kt hlen,?_⟩
     have nw:∀ q∈progAll hs i ++ handAll i hd'.2 j,q.1≠ptAt i hd'.2 j:=(handAll_rising hd'.2 ris j).new
     rw [put_done (x:=x) nw]
     refine ⟨_,rfl,_,_,rfl,rfl,some (.ref x.a),Same.at hd (s2.trans s3),?_,?_⟩
     ·rw [upd_same,handAll_succ hxj,if_pos c,List.append_assoc]
     ·have:((npts (hd'.2.take (j + 1)):Nat):Int)=(npts (hd'.2.take j):Int) + 1:=by rw [enp,if_pos c]; rfl
      rw [this]
      rfl
    ·have enp2:npts (hd'.2.take (j + 1))=npts (hd'.2.take j):=by rw [enp,if_neg c]; rfl
     have fin:∃ v4:Option V,Same H H2∧H2 d=some (.dT (doneK (progAll hs i ++ handAll i hd'.2 (j + 1))))∧[some (V.ref p),some (V.ref d),some (V.int (0 + (i:Int))),some (V.int (npts (hd'.2.take j))),some (V.ref x.a)]=[some (.ref p),some (.ref d),some (.int (0 + (i:Int))),some (.int (npts (hd'.2.take (j + 1)))),v4]:=⟨_,s2,by rw [handAll_succ hxj,if_neg c]; exact hd2,by rw [enp2]⟩
     rcases word_no c with w1 | w1
     ·exact ⟨_,rfl,x.a,_,_,_,rfl,rfl,hxd.t,word_at x.d,rfl,_,rfl,ifNf (by rw [w1]) fin⟩
     ·refine ⟨_,rfl,x.a,_,_,_,rfl,rfl,hxd.t,word_at x.d,rfl,_,rfl,ifNt (fun z=>by rw [w1] at z; exact absurd z (by decide +kernel)) ?_⟩
      exact ⟨_,rfl,x.a,_,_,_,rfl,rfl,hxd.t,word_at x.d,rfl,_,rfl,ifNf (by rw [w1]) fin⟩
   ·rintro σ H2 ⟨v4',s2,hd2,rfl⟩
    rw [List.length_map] at hd2
    refine ⟨_,_,_,s2,?_,rfl⟩
    rw [hd2]
    show _=some (HO.dT (doneK (progAll hs i ++ handAll i (handAt hs i) (handAt hs i).length)))
    rw [handAt_of hx]
  ·rintro σ Hs ⟨v2,v3,v4,s,hds,rfl⟩
   rw [List.length_map] at hds
   exact ⟨_,rfl,q d Hs s hd hds⟩
theorem sc_Lwrites:FnScope ["_law_deeds_here","_law_place_here"] ["_law_deeds_here","_law_place_here"] (defScope s_Lwrites):=⟨rfl,rfl,rfl,by decide +kernel,rfl,by decide +kernel,by decide +kernel⟩
theorem ok_Lwrites {f:Addr} {fd:FuncData} (F:Fun K "_law_writes" "_law_writes" s_Lwrites f fd) (T:Txt K mg) (h_Lplace:Has P w K mg base 1 "_law_place" ["_law_deed_here"] (sp_Lplace K)):FnOk P w K mg base CX0 2 f fd ["_law_deeds_here","_law_place_here"] (sp_Lwrites K):=by
 refine F.ok (k:=1) sc_Lwrites (fun vs H Q E h=>?_) (fun cdv A outer s H vs Q E hr h=>?_)
 ·obtain ⟨d,ds,pl,rfl,_⟩:=h
  rfl
 ·obtain ⟨d,ds,pl,rfl,hd,hn,nd,hI,q⟩:=h
  have hu:=hu_of hr
  refine ⟨_,(pss_one (ps_ret (pe_comp (Nc:=["_law_spot","_law_place_here","_law_deeds_here"]) (nt:=1) (js:=[1,0]) rfl ⟨rfl,rfl,rfl,rfl,(.cons rfl (.cons rfl .nil)),rfl,⟨["_law_spot"],["_law_place_here","_law_deeds_here"],rfl,rfl,(.cons rfl rfl rfl (.cons rfl rfl rfl .nil))⟩⟩ (pi_list (pe_callTy (call_list_keysT rfl) rfl T.n_list bt_list (pa_cons (pv 0) pa_nil))) (fun C s3 H3 fp pins=>⟨(pg_name (i:=0) (show (["_law_spot","_law_place_here","_law_deeds_here"]:List Str).Nodup by decide +kernel) rfl (Or.inl rfl)),(pts_one (PW.pt (pw_and (pt_cmpR op_ne (pe_ix (show IxR _ (rIxT K) from ix_tup) (pe_dget hu (pv 2) (pv 0) (fun _ _=>rfl)) pe_int (fun _ _=>rfl)) pe_str (nomark _)) (pw_and1 (pt_cmpR op_eq (pe_fn h_Lplace (hr.mono (by decide)) (pa_cons (pe_dget hu (pv 2) (pv 0) (fun _ _=>rfl)) pa_nil)) (pv 1) (nomark _)))))),(pv 0)⟩)))),?_⟩
  try dsimp only [nox_K]
  refine ⟨_,rfl,d,_,rfl,.inl hd,fun r as nr ka=>?_⟩
  obtain ⟨ps,e1,e2⟩:=keyTups_pts ka
  have s1:Same H (upd H r (.lst (as.map V.ref))):=Same.new nr
  have er:as.map V.ref=ps.map fun q=>V.ref q.1:=by rw [← e1,List.map_map]; rfl
  have hr1:(upd H r (.lst (as.map V.ref))) r=some (.lst (ps.map fun q=>V.ref q.1)):=by rw [upd_same,er]
  have hp1:=e2.same s1
  generalize upd H r (.lst (as.map V.ref))=H1 at s1 hr1 hp1 ⊢
  refine ⟨r,rfl,⟨_,SqL.of hr1⟩,fun D hD=>?_⟩
  have hpl:ps.length=ds.length:=by rw [hp1.len,List.length_map]
  refine comp_list (xs:=ps.map fun q=>V.ref q.1) (fun i σ ys H'=>Ex_2_6 (fun (qs:List TK) (v:Option V)=>Same H1 H') (fun qs v=>H' D=some (.lst ys)) (fun qs v=>ys=(qs.map fun q=>V.ref q.1)) (fun qs v=>PtsAt H' qs (writersTo (ds.take i) pl)) (fun qs v=>qs.length≤i) (fun qs v=>σ=[v,some (.str pl),some (.ref d)])) ?_ ?_ ?_ ?_ ?_
  ·exact ⟨[],none,Same.new hD,upd_same,rfl,PtsAt.nil,Nat.le_refl _,rfl⟩
  ·rintro i σ ys H' hi ⟨qs,v,s,hD',rfl,hp,hl,rfl⟩
   exact ⟨s.seq (SqL.of hr1),hD',by rw [List.length_map]; exact hl⟩
  ·rw [List.length_map]; exact Nat.le_of_lt (small1000 (by lia))
  ·rintro i y σ ys H' hy ⟨qs,v,s,hD',rfl,hp,hl,rfl⟩
   obtain ⟨o,ho,rfl⟩:=refs_get hy
   have hi:i < ds.length:=by rw [← hpl]; exact (List.getElem?_eq_some_iff.mp ho).1
   obtain ⟨x,ex⟩:∃ x,ds[i]?=some x:=⟨_,List.getElem?_eq_getElem hi⟩
   have hm:=List.mem_of_getElem? ex
   obtain ⟨z,hz1,hz2,hz3⟩:=hp1.get ho
   have ez:z=x.1:=by rw [List.getElem?_map,ex] at hz1; exact (Option.some.inj hz1).symm
   subst ez
   have hoT:=s _ _ hz3
   have hx:=(hI x hm).1.same (s1.trans s)
   have hxp:=(hI x hm).2
   have g:∀ {H2:Hp},Same H' H2→DGet H2 d (.ref o.1) (some (.ref x.2.a)):=fun s2=>by
    rw [← val_done nd hm]
    exact DGet.t (k:=pk x.1) (s2 _ _ ((s1.trans s) _ _ hd)) (s2 _ _ hoT)
   have e:writersTo (ds.take (i + 1)) pl=writersTo (ds.take i) pl ++ (if isTo pl x=true then [x.1] else []):=by
    unfold writersTo
    rw [List.take_add_one,ex,List.filter_append,List.map_append]
    congr 1
    by_cases c:isTo pl x=true
    ·rw [if_pos c]; simp [c]
    ·rw [if_neg c]; simp [c]
   have no:isTo pl x=false→Ex_2_6 (fun (qs':List TK) (v:Option V)=>Same H1 H') (fun qs' v=>H' D=some (.lst (qs.map fun q=>V.ref q.1))) (fun qs' v=>(qs.map fun q=>V.ref q.1)=(qs'.map fun q=>V.ref q.1)) (fun qs' v=>PtsAt H' qs' (writersTo (ds.take (i + 1)) pl)) (fun qs' v=>qs'.length≤i + 1) (fun qs' v=>[some (V.ref o.1),some (V.str pl),some (V.ref d)]=[v,some (.str pl),some (.ref d)]):=fun c=>⟨qs,_,s,hD',rfl,by rw [e,if_neg (by rw [c]; exact Bool.false_ne_true),List.append_nil]; exact hp,Nat.le_succ_of_le hl,rfl⟩
   by_cases cw:wordOf x.2.d="get"
   ·exact ⟨_,rfl,_,rfl,d,_,rfl,g (Same.refl _),x.2.a,_,_,_,rfl,rfl,hx.t,word_at x.2.d,rfl,_,rfl,ifNf (by rw [cw]) (no (isTo_get (x:=x.2) (z:=x.1) cw))⟩
   ·refine ⟨_,rfl,_,rfl,d,_,rfl,g (Same.refl _),x.2.a,_,_,_,rfl,rfl,hx.t,word_at x.2.d,rfl,_,rfl,ifNt (fun z=>cw (by injection z)) ?_⟩
    have wr:=writes_of hxp cw
    obtain ⟨pz,_,ep⟩:=place_spot hxp
    refine ⟨_,rfl,_,rfl,d,_,rfl,g (Same.refl _),x.2.a,x.2.d,rfl,hx.t,hxp,?_⟩
    rw [ep]
    refine ⟨_,rfl,rfl,_,rfl,ifD (fun c=>?_) (fun c=>?_)⟩
    ·have ct:isTo pl x=true:=by unfold isTo; rw [wr,ep]; exact decide_eq_true c
     refine ⟨_,rfl,hD',qs ++ [(o.1,pk x.1)],_,Same.at hD s,upd_same,by rw [List.map_append]; rfl,?_,by rw [List.length_append]; exact Nat.succ_le_succ hl,rfl⟩
     rw [e,if_pos ct]
     exact ((hp.snoc (a:=o.1) (z:=x.1) hoT)).lset hD'
    ·exact no (by unfold isTo; rw [wr,ep]; exact decide_eq_false c)
  ·rintro σ ys H' ⟨qs,v,s,hD',rfl,hp,hl,rfl⟩
   rw [List.length_map,hpl,List.take_of_length_le (Nat.le_refl _)] at hp
   exact q D qs H' (s1.trans s) (s1.free hD) hD' hp
theorem sc_Lnamed:FnScope ["_law_hand","_law_found","_law_deed_here"] ["_law_hand"] (defScope s_Lnamed):=⟨rfl,rfl,rfl,by decide +kernel,rfl,by decide +kernel,by decide +kernel⟩
theorem ok_Lnamed {f:Addr} {fd:FuncData} (F:Fun K "_law_named" "_law_named" s_Lnamed f fd) (T:Txt K mg) :FnOk P w K mg base CX0 1 f fd ["_law_hand"] (sp_Lnamed K):=by
 refine F.ok (k:=0) sc_Lnamed (fun vs H Q E h=>?_) (fun cdv A outer s H vs Q E hr h=>?_)
 ·obtain ⟨a,ds,rfl,_⟩:=h
  rfl
 ·obtain ⟨a,ds,rfl,hH,h40,q⟩:=h
  have hu:=hu_of hr
  refine ⟨_,(pss_cons (ps_set (i:=1) sc_Lnamed.nd rfl (Or.inl rfl) pe_dnewK)
   (pss_cons (ps_for PassesOwn.never rfl (pi_list (pv 0)) (pg_name (i:=2) sc_Lnamed.nd rfl (Or.inl rfl))
   (pss_cut (ps_if (pt_cmpR op_notN (pe_ix ix_tup (pv 2) (pe_un un_neg pe_int) (fun _ _=>rfl)) pe_non (nomark _))
   (pss_one (ps_dput hu (pv 1) (pe_ix ix_tup (pe_ix ix_tup (pv 2) (pe_un un_neg pe_int) (fun _ _=>rfl)) pe_int (fun _ _=>rfl)) pe_int rfl))
   pss_nil)
   (pss_one (ps_if (PW.pt (pw_or (pt_cmpR op_eq (pe_ix ix_tup (pv 2) pe_int (fun _ _=>rfl)) pe_str (nomark _)) (pw_or1 (pt_cmpR op_eq (pe_ix ix_tup (pv 2) pe_int (fun _ _=>rfl)) pe_str (nomark _)))))
   (pss_one (ps_dput hu (pv 1) (pe_ix ix_tup (pv 2) pe_int (fun _ _=>rfl)) pe_int rfl))
   pss_nil))))
   (pss_one (ps_ret (pv 1))))),?_⟩
  dsimp only [nox_K]
  refine fun d hd=>?_
  refine ⟨_,rfl,a,rfl,⟨_,(Same.new hd).seq hH.l⟩,for_list (xs:=ds.map fun x=>V.ref x.a) (NI1 H a d ds) ?_ ?_ ?_ ?_⟩
  ·exact ⟨[],none,Same.new hd,upd_same,⟨Ints.nil,fun c=>rfl,fun c=>Iff.intro (fun z=>nomatch z) (fun ⟨x,hx,_⟩=>nomatch hx),List.nodup_nil,Nat.le_refl _⟩,rfl⟩
  ·rintro i σ H' _ ⟨kvs,v2,s,_,_,_⟩
   exact s.seq hH.l
  ·rintro i y σ H' hy ⟨kvs,v2,s,hd',hN,rfl⟩
   obtain ⟨x,hx,rfl⟩:=refs_get hy
   have hi:i < ds.length:=(List.getElem?_eq_some_iff.mp hx).1
   have hxd:=(hH.ds x (List.mem_of_getElem? hx)).same s
   have et:∀ c:Str,(∃ y∈ds.take (i + 1),c∈fill y.d∨c∈asks y) ↔ ((∃ y∈ds.take i,c∈fill y.d∨c∈asks y)∨c∈asks x)∨c∈fill x.d:=fun c=>by
    rw [List.take_add_one,hx]
    constructor
    ·rintro ⟨y,hy,z⟩
     rcases List.mem_append.mp hy with hy | hy
     ·exact .inl (.inl ⟨y,hy,z⟩)
     ·rw [List.mem_singleton.mp hy] at z
      rcases z with z | z
      ·exact .inr z
      ·exact .inl (.inr z)
    ·rintro ((⟨y,hy,z⟩ | z) | z)
     ·exact ⟨y,List.mem_append_left _ hy,z⟩
     ·exact ⟨x,List.mem_append_right _ (List.mem_singleton.mpr rfl),.inr z⟩
     ·exact ⟨x,List.mem_append_right _ (List.mem_singleton.mpr rfl),.inl z⟩
   refine ⟨NI2 H a d ds x i,?_,?_⟩
   ·have hg:=hxd.g
    unfold DD.gok at hg
    cases hgc:x.g with
    | none =>
     rw [hgc] at hg
     refine ⟨_,rfl,1,rfl,x.a,_,_,_,rfl,rfl,hxd.t,guard_at x.d,?_⟩
     rw [hg]
     refine ⟨rfl,_,rfl,ifNf rfl ⟨kvs,s,hd',hN.wider (fun c=>?_) (by lia),rfl⟩⟩
     rw [show asks x=[] by unfold asks; rw [hgc]; rfl]
     exact Iff.intro (fun z=>by rcases z with z | z; exact z; exact (nomatch z)) Or.inl
    | some c =>
     obtain ⟨wd,c,n⟩:=c
     rw [hgc] at hg
     obtain ⟨g,hg1,hg2⟩:=hg
     refine ⟨_,rfl,1,rfl,x.a,_,_,_,rfl,rfl,hxd.t,guard_at x.d,?_⟩
     rw [hg1]
     refine ⟨rfl,_,rfl,ifNt (fun z=>nomatch z) ?_⟩
     have hkl:kvs.length < sizeLine:=small1000 (by have:=hN.n; lia)
     refine ⟨_,rfl,_,rfl,1,rfl,x.a,_,_,_,rfl,rfl,hxd.t,by rw [← hg1]; exact guard_at x.d,g,_,_,_,rfl,rfl,hg2,rfl,d,_,rfl,DPut.k (k:=Sum.inr c) hd' hkl,?_⟩
     refine ⟨_,Same.at hd s,upd_same,hN.put c fun c'=>?_,rfl⟩
     rw [show asks x=[c] by unfold asks; rw [hgc]; rfl,List.mem_singleton]
   ·rintro σ H3 ⟨kvs3,s3,hd3,hN3,rfl⟩
    have hx3:=(hH.ds x (List.mem_of_getElem? hx)).same s3
    by_cases c:x.d.reads=true
    ·obtain ⟨z,z1,_⟩:=cup_fill c
     have hkl:kvs3.length < sizeLine:=small1000 (by have:=hN3.n; lia)
     have fin:NI1 H a d ds (i + 1) [some (.ref a),some (.ref d),some (.ref x.a)] (upd H3 d (.dK (putK kvs3 (Sum.inr z) (.int 0)))):=⟨_,_,Same.at hd s3,upd_same,(hN3.put z fun c'=>by rw [et c',z1,List.mem_singleton]),rfl⟩
     rcases cup_word c with w1 | w1
     ·exact ⟨_,rfl,x.a,_,_,_,rfl,rfl,hx3.t,word_at x.d,rfl,_,rfl,ifDt (by rw [w1]) ⟨_,rfl,_,rfl,x.a,_,_,_,rfl,rfl,hx3.t,fill_at z1,d,_,rfl,DPut.k (k:=Sum.inr z) hd3 hkl,fin⟩⟩
     ·refine ⟨_,rfl,x.a,_,_,_,rfl,rfl,hx3.t,word_at x.d,rfl,_,rfl,ifDf (fun z=>by rw [w1] at z; exact absurd z (by decide +kernel)) ?_⟩
      exact ⟨_,rfl,x.a,_,_,_,rfl,rfl,hx3.t,word_at x.d,rfl,_,rfl,ifDt (by rw [w1]) ⟨_,rfl,_,rfl,x.a,_,_,_,rfl,rfl,hx3.t,fill_at z1,d,_,rfl,DPut.k (k:=Sum.inr z) hd3 hkl,fin⟩⟩
    ·obtain ⟨w1,w2⟩:=cup_no c
     refine ⟨_,rfl,x.a,_,_,_,rfl,rfl,hx3.t,word_at x.d,rfl,_,rfl,ifDf (fun z=>w1 (by injection z)) ?_⟩
     refine ⟨_,rfl,x.a,_,_,_,rfl,rfl,hx3.t,word_at x.d,rfl,_,rfl,ifDf (fun z=>w2 (by injection z)) ⟨kvs3,_,s3,hd3,hN3.wider (fun c'=>?_) (by lia),rfl⟩⟩
     rw [et c',fill_none (by simpa using c)]
     exact Iff.intro (fun z=>by rcases z with z | z; exact z; exact (nomatch z)) Or.inl
  ·rintro σ H' ⟨kvs,v2,s,hd',hN,rfl⟩
   rw [List.length_map,List.take_of_length_le (Nat.le_refl _)] at hN
   exact ⟨_,rfl,q d kvs H' s hd hd' ⟨hN.i,hN.z,hN.k,hN.nd,hN.n⟩⟩
end
end Own
--#dictT
set_option Elab.async false
set_option linter.all false
set_option maxRecDepth 100000
set_option maxHeartbeats 4100000
namespace Own
open PySem L2
noncomputable def doneT (D:Done):List (List Key×V):=D.map fun q=>(pk q.1,V.bl true)
theorem val_doneT:∀ (D:Done) (z:Z2),valV (doneT D) (pk z)=if z∈D.map (·.1) then some (.bl true) else none
 | [],z=>by rw [if_neg (by simp)]; rfl
 | q :: D,z=>by
  unfold doneT
  rw [List.map_cons]
  by_cases c:q.1=z
  ·rw [valV_pos (show pk q.1=pk z by rw [c]),if_pos (by rw [List.map_cons,c]; exact List.mem_cons_self ..)]
  ·rw [valV_neg (fun (e:pk q.1=pk z)=>c (pk_inj e))]
   have ih:=val_doneT D z
   unfold doneT at ih
   rw [ih]
   by_cases c2:z∈D.map (·.1)
   ·rw [if_pos c2,if_pos (by rw [List.map_cons]; exact List.mem_cons_of_mem _ c2)]
   ·rw [if_neg c2,if_neg (by rw [List.map_cons,List.mem_cons]; exact fun h=>h.elim (fun e=>c e.symm) c2)]
theorem put_doneT {D:Done} {z:Z2} {x:DD} (h:∀ q∈D,q.1≠z):putK (doneT D) (pk z) (.bl true)=doneT (D ++ [(z,x)]):=by
 rw [putK_new]
 ·unfold doneT; rw [List.map_append]; rfl
 ·unfold doneT
  rw [List.map_map]
  intro c
  obtain ⟨q,hq,e⟩:=List.mem_map.mp c
  exact h q hq (pk_inj e)
theorem number_at' {d:Deed} (h:d.writes=true):atI d.items (-2)=some (.int (numOf d)):=by
 cases d with
 | put x n g=>rfl
 | swap c x n g=>rfl
 | get c x g=>cases h
 | fence g=>cases h
 | bar g=>cases h
noncomputable def setN (num:Z2→Int) (z:Z2) (n:Int):Z2→Int:=fun y=>if y=z then n else num y
theorem SrcOk.more {hs:Hands} {D D':Done} {num:Z2→Int} {f:FR} (h:SrcOk hs D num f) (s:∀ z∈D.map (·.1),z∈D'.map (·.1)):SrcOk hs D' num f :=
 ⟨h.n,fun y hy=>let ⟨a,e,x,pl,b1,b2,b3,b4,b5,b6⟩:=h.o y hy; ⟨a,e,x,pl,b1,b2,b3,b4,b5,b6.elim .inl fun c=>.inr (s _ c)⟩⟩
theorem SrcOk.num {hs:Hands} {D:Done} {num num':Z2→Int} {f:FR} (h:SrcOk hs D num f) (e:num' f.z=num f.z):SrcOk hs D num' f:=⟨e.trans h.n,h.o⟩
section
variable {K:PySem.W.Frag} {H H':Hp}
theorem SqT.dset {a d:Addr} {xs:List V} {u u':HO} (hd:H d=some u) (hu:∀ ys,u≠.tup ys) (hf:∀ o ys,u≠.frz o (.tup ys)) (h:SqT K H a xs):SqT K (upd H d u') a xs:=by
 rcases h with (h | ⟨o,h⟩) | h
 ·exact .inl (.inl (by rw [upd_ne (fun z=>by rw [z,hd] at h; exact hu _ (Option.some.inj h))]; exact h))
 ·exact .inl (.inr ⟨o,by rw [upd_ne (fun z=>by rw [z,hd] at h; exact hf _ _ (Option.some.inj h))]; exact h⟩)
 ·exact .inr h
theorem SrcV.dset {d:Addr} {u u':HO} {v:V} {o:Option Z2} (hd:H d=some u) (hu:∀ ys,u≠.tup ys) (hf:∀ o ys,u≠.frz o (.tup ys)) (h:SrcV K H v o):SrcV K (upd H d u') v o:=by
 cases o with
 | none=>exact h
 | some z=>obtain ⟨t,e,h⟩:=h; exact ⟨t,e,SqT.dset hd hu hf h⟩
end
theorem all_in {K:PySem.W.Frag} {H:Hp} {p:Addr} {hs:Hands} (hP:IsProg K H p hs) {q:Z2×DD} (h:q∈progAll hs hs.length):IsDeed K H q.2:=ddAt_deed hP (progAll_dd (Nat.le_refl _) h)
theorem all_small {hs:Hands} (n6:hs.length≤6) (h40:∀ h∈hs,h.2.length≤40) {q:Z2×DD}:∀ {i:Nat},i≤hs.length→q∈progAll hs i→0≤q.1.1∧q.1.1≤6∧0≤q.1.2∧q.1.2≤40
 | 0,_,hq=>nomatch hq
 | i + 1,hi,hq=>by
  rcases List.mem_append.mp hq with h | h
  ·exact all_small n6 h40 (by lia) h
  ·obtain ⟨j,e1,e2,_⟩:=handAll_at h
   have hx:hs[i]?=some hs[i]:=List.getElem?_eq_getElem (by lia)
   have h1:(handAt hs i).length≤40:=by rw [handAt_of hx]; exact h40 _ (List.mem_of_getElem? hx)
   have h2:npts ((handAt hs i).take j)≤40:=Nat.le_trans (ptsOf_le _) (by rw [List.length_take]; lia)
   rw [e2]
   unfold ptAt
   dsimp only
   lia
structure LOk (H:Hp) (lm:Addr) (A D:Done) (y:LN):Prop where
 p:H y.a=some (.tup [.str y.pl,.ref y.l])
 l:H y.l=some (.lst (y.ps.map fun q=>V.ref q.1))
 t:PtsAt H y.ps y.zs
 pm:y.zs.Perm (((A.filter (isTo y.pl)).filter (inD D)).map (·.1))
 ne:y.l≠lm
theorem LOk.same {H H':Hp} {lm:Addr} {A D:Done} {y:LN} (s:Same H H') (h:LOk H lm A D y):LOk H' lm A D y:=⟨s _ _ h.p,s _ _ h.l,h.t.same s,h.pm,h.ne⟩
theorem LOk.lset {H:Hp} {lm:Addr} {A D:Done} {y:LN} {xs ys:List V} (hl:H lm=some (.lst xs)) (h:LOk H lm A D y):LOk (upd H lm (.lst ys)) lm A D y :=
 ⟨by rw [upd_ne (ne_of h.p hl (by intro z; cases z))]; exact h.p,by rw [upd_ne h.ne]; exact h.l,⟨h.t.eq,fun q hq=>by have:=h.t.at_ q hq; rw [upd_ne (ne_of this hl (by intro z; cases z))]; exact this⟩,h.pm,h.ne⟩
structure GS where
 done:Done
 held:List (List (Key×V))
noncomputable def aStep (num:Z2→Int) (s:GS) (q:Z2×DD):GS:=match s.held[q.1.1.toNat]? with
 | none=>s
 | some kv=>if holdsG q.2.g kv=true then ⟨s.done ++ [q],s.held.set q.1.1.toNat (hasPut q.2.d kv (num q.1))⟩ else s
noncomputable def aWalk (num:Z2→Int) (l:Done) (s:GS):GS:=l.foldl (aStep num) s
theorem aWalk_snoc (num:Z2→Int) (l:Done) (q:Z2×DD) (s:GS):aWalk num (l ++ [q]) s=aStep num (aWalk num l s) q:=by
 unfold aWalk
 rw [List.foldl_append]
 rfl
theorem aWalk_append (num:Z2→Int) (l m:Done) (s:GS):aWalk num (l ++ m) s=aWalk num m (aWalk num l s):=by
 unfold aWalk
 rw [List.foldl_append]
theorem aWalk_congr {num num':Z2→Int}:∀ {l:Done} {s:GS},(∀ q∈l,num q.1=num' q.1)→aWalk num l s=aWalk num' l s
 | [],s,_=>rfl
 | q :: l,s,h=>by
  have e:aStep num s q=aStep num' s q:=by
   unfold aStep
   rw [h q (List.mem_cons_self ..)]
  show aWalk num l (aStep num s q)=aWalk num' l (aStep num' s q)
  rw [e]
  exact aWalk_congr fun r hr=>h r (List.mem_cons_of_mem _ hr)
theorem holds_there {g:Option (Str×Str×Int)} {a b:List (Key×V)} (h:∀ c,thereV a c=thereV b c):holdsG g a=holdsG g b:=by
 unfold holdsG
 cases g with
 | none=>rfl
 | some g=>obtain ⟨w,c,n⟩:=g; show holdsV w (thereV a c) n=holdsV w (thereV b c) n; rw [h c]
theorem hasPut_there {d:Deed} {a b:List (Key×V)} (n:Int) (h:∀ c,thereV a c=thereV b c):∀ c,thereV (hasPut d a n) c=thereV (hasPut d b n) c:=fun c=>by
 have put:∀ x:Str,thereV (putK a (Sum.inr x) (.int n)) c=thereV (putK b (Sum.inr x) (.int n)) c:=fun x=>by
  rw [there_put,there_put,h c]
 cases d with
 | put x m g=>exact h c
 | get x y g=>exact put x
 | swap x y m g=>exact put x
 | fence g=>exact h c
 | bar g=>exact h c
structure HandR (i:Nat) (s0 s:GS) (w:WS):Prop where
 d:s.done=w.done
 k:∃ kv,s.held[i]?=some kv∧∀ c,thereV kv c=thereV w.has c
 o:∀ m,m≠i→s.held[m]?=s0.held[m]?
theorem hand_rel {num:Z2→Int} {i:Nat} {ds:List DD} {s0 s:GS} {w:WS} (h:HandR i s0 s w):∀ j,HandR i s0 (aWalk num (handAll i ds j) s) (handW num i ds j w)
 | 0=>h
 | j + 1=>by
  have ih:=hand_rel (num:=num) (ds:=ds) h j
  cases e:ds[j]? with
  | none=>rw [handAll_none e,handW_none e]; exact ih
  | some x =>
   rw [handAll_succ e,handW_succ e]
   obtain ⟨kv,k1,k2⟩:=ih.k
   have hl:i < (aWalk num (handAll i ds j) s).held.length:=(List.getElem?_eq_some_iff.mp k1).1
   have hh:holdsG x.g kv=holdsG x.g (handW num i ds j w).has:=holds_there k2
   by_cases c:pt x.d=true
   ·rw [if_pos c,aWalk_snoc]
    unfold aStep stepW
    have et:(ptAt i ds j).1.toNat=i:=Int.toNat_natCast i
    dsimp only
    rw [et,k1]
    dsimp only
    by_cases b:holdsG x.g kv=true
    ·rw [if_pos b,if_pos (by rw [← hh]; exact b),if_pos c]
     refine ⟨by show _ ++ _=_ ++ _; rw [ih.d],⟨_,List.getElem?_set_self hl,hasPut_there _ k2⟩,fun m hm=>?_⟩
     show (List.set _ i _)[m]?=_
     rw [List.getElem?_set_ne (Ne.symm hm)]
     exact ih.o m hm
    ·rw [if_neg b,if_neg (by rw [← hh]; exact b)]
     exact ih
   ·rw [if_neg c]
    unfold stepW
    by_cases b:holdsG x.g (handW num i ds j w).has=true
    ·rw [if_pos b,if_neg c]
     exact ⟨ih.d,ih.k,ih.o⟩
    ·rw [if_neg b]
     exact ih
structure ProgR (hs:Hands) (h0:List (List (Key×V))) (i:Nat) (s:GS) (w:PW3):Prop where
 d:s.done=w.done
 k:∀ m,m < i→Ex_2_3 (fun kv f=>s.held[m]?=some kv) (fun kv f=>w.filled[m]?=some f) (fun kv f=>∀ c,thereV kv c=thereV f c)
 o:∀ m,i≤m→s.held[m]?=h0[m]?
theorem prog_rel {num:Z2→Int} {S C:List Str} {hs:Hands} (G:Good S C hs) {h0:List (List (Key×V))} (hl:h0.length=hs.length) (hz:∀ kv∈h0,∀ c,thereV kv c=.int 0):∀ i,i≤hs.length→ProgR hs h0 i (aWalk num (progAll hs i) ⟨[],h0⟩) (progW num hs i)
 | 0,_=>⟨rfl,fun m h=>absurd h (by lia),fun m _=>rfl⟩
 | i + 1,hi=>by
  have ih:=prog_rel (num:=num) G hl hz i (by lia)
  have ek:h0[i]?=some h0[i]:=List.getElem?_eq_getElem (by lia)
  have fl:=(progW_len num G i).2.2
  have r:HandR i (aWalk num (progAll hs i) ⟨[],h0⟩) (aWalk num (progAll hs i) ⟨[],h0⟩) ⟨(progW num hs i).done,(progW num hs i).stops,[]⟩:=⟨ih.d,⟨h0[i],by rw [ih.o i (Nat.le_refl _)]; exact ek,fun c=>by rw [hz _ (List.getElem_mem _) c]; rfl⟩,fun m _=>rfl⟩
  have r2:=hand_rel (num:=num) (ds:=handAt hs i) r (handAt hs i).length
  have e:aWalk num (progAll hs (i + 1)) ⟨[],h0⟩=aWalk num (handAll i (handAt hs i) (handAt hs i).length) (aWalk num (progAll hs i) ⟨[],h0⟩):=aWalk_append _ _ _ _
  rw [e]
  refine ⟨r2.d,fun m hm=>?_,fun m hm=>?_⟩
  ·by_cases c:m=i
   ·obtain ⟨kv,k1,k2⟩:=r2.k
    refine ⟨kv,_,by rw [c]; exact k1,?_,k2⟩
    show ((progW num hs i).filled ++ [_])[m]?=some _
    rw [List.getElem?_append_right (by lia),c,fl,Nat.sub_self]
    rfl
   ·obtain ⟨kv,f,a1,a2,a3⟩:=ih.k m (by lia)
    refine ⟨kv,f,by rw [r2.o m c]; exact a1,?_,a3⟩
    show ((progW num hs i).filled ++ [_])[m]?=some f
    rw [List.getElem?_append_left (by lia)]
    exact a2
  ·rw [r2.o m (by lia)]
   exact ih.o m (by lia)
theorem putK_same {kvs:List (Key×V)} {k:Key} {v:V} (h:k∈kvs.map (·.1)):(putK kvs k v).map (·.1)=kvs.map (·.1):=by rw [putK_keys,if_pos h]
theorem hasPut_keys {d:Deed} {kvs:List (Key×V)} {n:Int} (h:∀ c∈fill d,(Sum.inr c:Key)∈kvs.map (·.1)):(hasPut d kvs n).map (·.1)=kvs.map (·.1):=by
 cases d with
 | put x m g=>rfl
 | get x y g=>exact putK_same (h x (List.mem_singleton.mpr rfl))
 | swap x y m g=>exact putK_same (h x (List.mem_singleton.mpr rfl))
 | fence g=>rfl
 | bar g=>rfl
theorem progAll_hand {hs:Hands} {q:Z2×DD}:∀ {i:Nat},i≤hs.length→q∈progAll hs i→∃ m:Nat,q.1.1=(m:Int)∧m < hs.length∧q.2∈handAt hs m
 | 0,_,h=>nomatch h
 | i + 1,hi,h=>by
  rcases List.mem_append.mp h with h | h
  ·exact progAll_hand (by lia) h
  ·obtain ⟨j,e1,e2,_⟩:=handAll_at h
   exact ⟨i,by rw [e2]; rfl,by lia,List.mem_of_getElem? e1⟩
end Own
--#dictT
set_option Elab.async false
set_option linter.all false
set_option maxRecDepth 100000
set_option maxHeartbeats 4100000
namespace Own
open PySem L2
structure GI (K:PySem.W.Frag) (H1 H:Hp) (dn fm:Addr) (ff:List Addr) (D:Done) (fs:List FR) (cs:List (List (Key×V))):Prop where
 ex:SameEx (dn :: fm :: ff) H1 H
 edn:H dn=some (.dT (doneT D))
 efm:H fm=some (.lst (fs.map fun f=>V.ref f.a))
 fp:∀ f∈fs,H f.a=some (.tup [.ref f.t,f.v])∧H f.t=some (.tup ((pk f.z).map kV))∧SrcV K H f.v f.o
 fa:FilledAt H ff cs
theorem FilledAt.same {H H':Hp} {ff:List Addr} {cs:List (List (Key×V))} (s:Same H H') (h:FilledAt H ff cs):FilledAt H' ff cs:=⟨h.len,fun i a c e1 e2=>s _ _ (h.at_ i a c e1 e2)⟩
section
variable {K:PySem.W.Frag} {H1 H H':Hp} {dn fm:Addr} {ff:List Addr} {D:Done} {fs:List FR} {cs:List (List (Key×V))}
theorem GI.same (s:Same H H') (h:GI K H1 H dn fm ff D fs cs):GI K H1 H' dn fm ff D fs cs :=
 ⟨h.ex.then s,s _ _ h.edn,s _ _ h.efm,fun f hf=>⟨s _ _ (h.fp f hf).1,s _ _ (h.fp f hf).2.1,(h.fp f hf).2.2.same s⟩,h.fa.same s⟩
theorem GI.dict (h:GI K H1 H dn fm ff D fs cs) {a:Addr} (ha:a∈ff):∃ c,H a=some (.dK c):=by
 obtain ⟨i,hi⟩:=List.getElem?_of_mem ha
 have hl:i < cs.length:=by rw [← h.fa.len]; exact (List.getElem?_eq_some_iff.mp hi).1
 exact ⟨_,h.fa.at_ i a _ hi (List.getElem?_eq_getElem hl)⟩
theorem GI.from_ {f:FR} (h1:H f.a=some (.tup [.ref f.t,f.v])) (h2:H f.t=some (.tup ((pk f.z).map kV))) (h3:SrcV K H f.v f.o) (h:GI K H1 H dn fm ff D fs cs):GI K H1 (upd H fm (.lst ((fs.map fun f=>V.ref f.a) ++ [.ref f.a]))) dn fm ff D (fs ++ [f]) cs:=by
 have tp:∀ {b:Addr} {ys:List V},H b=some (.tup ys)→upd H fm (.lst ((fs.map fun f=>V.ref f.a) ++ [.ref f.a])) b=some (.tup ys):=fun e=>by
  rw [upd_ne (ne_of e h.efm (by intro z; cases z))]; exact e
 refine ⟨h.ex.put (List.mem_cons_of_mem _ (List.mem_cons_self ..)),by rw [upd_ne (ne_of h.edn h.efm (by intro z; cases z))]; exact h.edn,by rw [upd_same,List.map_append]; rfl,fun g hg=>?_,⟨h.fa.len,fun i a c e1 e2=>?_⟩⟩
 ·rcases List.mem_append.mp hg with hg | hg
  ·exact ⟨tp (h.fp g hg).1,tp (h.fp g hg).2.1,(h.fp g hg).2.2.lset h.efm⟩
  ·rw [List.mem_singleton.mp hg]; exact ⟨tp h1,tp h2,h3.lset h.efm⟩
 ·have e:=h.fa.at_ i a c e1 e2
  rw [upd_ne (ne_of e h.efm (by intro z; cases z))]
  exact e
theorem GI.put {z:Z2} {x:DD} (hz:∀ q∈D,q.1≠z) (h:GI K H1 H dn fm ff D fs cs):GI K H1 (upd H dn (.dT (putK (doneT D) (pk z) (.bl true)))) dn fm ff (D ++ [(z,x)]) fs cs:=by
 have tp:∀ {b:Addr} {ys:List V},H b=some (.tup ys)→upd H dn (.dT (putK (doneT D) (pk z) (.bl true))) b=some (.tup ys):=fun e=>by
  rw [upd_ne (ne_of e h.edn (by intro z; cases z))]; exact e
 refine ⟨h.ex.put (List.mem_cons_self ..),by rw [upd_same,put_doneT hz],by rw [upd_ne (ne_of h.efm h.edn (by intro z; cases z))]; exact h.efm,fun f hf=>⟨tp (h.fp f hf).1,tp (h.fp f hf).2.1,(h.fp f hf).2.2.dset h.edn (fun ys e=>nomatch e) (fun o ys e=>nomatch e)⟩,⟨h.fa.len,fun i a c e1 e2=>?_⟩⟩
 have e:=h.fa.at_ i a c e1 e2
 rw [upd_ne (ne_of e h.edn (by intro z; cases z))]
 exact e
theorem GI.cup {m:Nat} {ha:Addr} {kv kv':List (Key×V)} (nd:ff.Nodup) (hm:ff[m]?=some ha) (hc:cs[m]?=some kv) (h:GI K H1 H dn fm ff D fs cs):GI K H1 (upd H ha (.dK kv')) dn fm ff D fs (cs.set m kv'):=by
 have eh:=h.fa.at_ m ha kv hm hc
 have tp:∀ {b:Addr} {ys:List V},H b=some (.tup ys)→upd H ha (.dK kv') b=some (.tup ys):=fun e=>by
  rw [upd_ne (ne_of e eh (by intro z; cases z))]; exact e
 refine ⟨h.ex.put (List.mem_cons_of_mem _ (List.mem_cons_of_mem _ (List.mem_of_getElem? hm))),by rw [upd_ne (ne_of h.edn eh (by intro z; cases z))]; exact h.edn,by rw [upd_ne (ne_of h.efm eh (by intro z; cases z))]; exact h.efm,fun f hf=>⟨tp (h.fp f hf).1,tp (h.fp f hf).2.1,(h.fp f hf).2.2.dset eh (fun ys e=>nomatch e) (fun o ys e=>nomatch e)⟩,⟨by rw [List.length_set]; exact h.fa.len,fun i a c e1 e2=>?_⟩⟩
 by_cases ci:i=m
 ·subst ci
  rw [hm] at e1
  cases e1
  rw [List.getElem?_set_self (List.getElem?_eq_some_iff.mp hc).1] at e2
  cases e2
  exact upd_same
 ·rw [List.getElem?_set_ne (Ne.symm ci)] at e2
  have e:=h.fa.at_ i a c e1 e2
  have na:a≠ha:=fun z=>by
   subst z
   exact ci (nodup_inj nd e1 hm)
  rw [upd_ne na]
  exact e
end
theorem set_same {α:Type} {l:List α} {m:Nat} {x:α} (h:l[m]?=some x):l.set m x=l:=by
 refine List.ext_getElem? fun i=>?_
 by_cases c:i=m
 ·subst c
  rw [List.getElem?_set_self (List.getElem?_eq_some_iff.mp h).1,h]
 ·rw [List.getElem?_set_ne (Ne.symm c)]
theorem putK_twice {kvs:List (Key×V)} {k:Key} {a b:V} (h:k∈kvs.map (·.1)):putK (putK kvs k a) k b=putK kvs k b:=by
 have any:∀ l:List (Key×V),k∈l.map (·.1)→(l.any fun kv=>decide (kv.1=k))=true:=fun l hl=>by
  obtain ⟨q,hq,e⟩:=List.mem_map.mp hl
  exact List.any_eq_true.mpr ⟨q,hq,decide_eq_true e⟩
 have h2:k∈(putK kvs k a).map (·.1):=by rw [putK_same h]; exact h
 have e2:∀ (l:List (Key×V)) (v:V),k∈l.map (·.1)→putK l k v=l.map (fun kv=>if kv.1=k then (kv.1,v) else kv):=fun l v hl=>by
  unfold putK
  rw [if_pos (any _ hl)]
 rw [e2 _ b h2,e2 kvs a h,e2 kvs b h,List.map_map]
 refine List.map_congr_left fun q _=>?_
 show (if (if q.1=k then (q.1,a) else q).1=k then ((if q.1=k then (q.1,a) else q).1,b) else (if q.1=k then (q.1,a) else q))=_
 by_cases c:q.1=k
 ·simp only [if_pos c]
 ·simp only [if_neg c]
theorem SrcV.ex1 {K:PySem.W.Frag} {H H':Hp} {sm:Addr} {xs:List V} {v:V} {o:Option Z2} (ex:SameEx [sm] H H') (hs:H sm=some (.lst xs)) (h:SrcV K H v o):SrcV K H' v o:=by
 cases o with
 | none=>exact h
 | some z =>
  obtain ⟨t,e,h⟩:=h
  refine ⟨t,e,?_⟩
  rcases h with (h | ⟨u,h⟩) | h
  ·exact .inl (.inl (ex _ _ (fun c=>by rw [List.mem_singleton.mp c,hs] at h; cases h) h))
  ·exact .inl (.inr ⟨u,ex _ _ (fun c=>by rw [List.mem_singleton.mp c,hs] at h; cases h) h⟩)
  ·exact .inr h
structure HeldK (h0 cs:List (List (Key×V))):Prop where
 len:cs.length=h0.length
 at_:∀ (m:Nat) kv,cs[m]?=some kv→Ints kv∧∃ kv0,h0[m]?=some kv0∧kv.map (·.1)=kv0.map (·.1)
theorem HeldK.set {h0 cs:List (List (Key×V))} (h:HeldK h0 cs) {m:Nat} {kv kv':List (Key×V)} (hc:cs[m]?=some kv) (hi:Ints kv') (hk:kv'.map (·.1)=kv.map (·.1)):HeldK h0 (cs.set m kv'):=by
 refine ⟨by rw [List.length_set]; exact h.len,fun i y e=>?_⟩
 by_cases c:i=m
 ·subst c
  rw [List.getElem?_set_self (List.getElem?_eq_some_iff.mp hc).1] at e
  cases e
  obtain ⟨_,kv0,a1,a2⟩:=h.at_ i kv hc
  exact ⟨hi,kv0,a1,hk.trans a2⟩
 ·rw [List.getElem?_set_ne (Ne.symm c)] at e
  exact h.at_ i y e
structure Gone (K:PySem.W.Frag) (H:Hp) (hs:Hands) (num:Z2→Int) (dn fm hl:Addr) (ff:List Addr) (fs:List FR) (cs:List (List (Key×V))):Prop where
 edn:H dn=some (.dT (doneT (progW num hs hs.length).done))
 efm:H fm=some (.lst (fs.map fun f=>V.ref f.a))
 fp:∀ f∈fs,H f.a=some (.tup [.ref f.t,f.v])∧H f.t=some (.tup ((pk f.z).map kV))∧SrcV K H f.v f.o
 ehl:H hl=some (.lst (ff.map V.ref))
 fa:FilledAt H ff cs
 rd:fs.map (·.z)=readersOf (progW num hs hs.length).done
 so:∀ f∈fs,SrcOk hs (progW num hs hs.length).done num f
 nf:fs.length≤40
 cl:cs.length=hs.length
 ck:∀ (m:Nat) kv,cs[m]?=some kv→Ints kv∧(kv.map (·.1)).Nodup∧kv.length≤80∧(∀ c:Str,(Sum.inr c:Key)∈kv.map (·.1) ↔ ∃ x∈handAt hs m,c∈fill x.d∨c∈asks x)∧∃ f,(progW num hs hs.length).filled[m]?=some f∧∀ c,thereV kv c=thereV f c
inductive Sp_Lgone (K:PySem.W.Frag) (vs:List V) (H:Hp) (Q:VK) (E_:XK):Prop
 | mk (p:Addr) (d:Addr) (a:Addr) (ns:List Int) (turn:Int) (hs:Hands) (S:List Str) (C:List Str) (h0_:vs=[.ref p,.ref d,.ref a,.int turn]) (h1_:IsProg K H p hs) (h2_:Good S C hs) (h3_:(hs.map fun h=>h.2.length).sum≤40) (h4_:H d=some (.dT (doneK (progAll hs hs.length)))) (h5_:SqL K H a (ns.map V.int)) (h6_:0≤turn) (h7_:turn≤1) (h8_:∀ (T dn fm hl:Addr) (ff:List Addr) (fs:List FR) (cs:List (List (Key×V))) (num:Z2→Int) (H':Hp),Same H H'→H' T=some (.tup [.ref fm,.ref dn,.ref hl])→Gone K H' hs num dn fm hl ff fs cs→Q (.ref T) H'):Sp_Lgone K vs H Q E_
noncomputable def sp_Lgone (K:PySem.W.Frag):Sp:=Sp_Lgone K
structure Sure3 (A D:Done) (z:Z2) (pl:Str) (y:Z2) (e:DD):Prop where
 ne:y≠z
 i:(y,e)∈A
 w:e.d.writes=true
 p:e.d.place=.str pl
 s:e.g=none∨y∈D.map (·.1)
noncomputable abbrev CH:=Addr×Z2×DD
inductive GX1 (H2:Hp) (hl:Addr) (hs:Hands) (i:Nat) (σ:St) (ys:List V) (H':Hp):Prop
 | mk (ff:List Addr) (cs:List (List (Key×V))) (v:Option V) (h0_:Same H2 H') (h1_:H' hl=some (.lst ys)) (h2_:ys=ff.map V.ref) (h3_:FilledAt H' ff cs) (h4_:ff.length=i) (h5_:(∀ b∈ff,H2 b=none)) (h6_:ff.Nodup) (h7_:(∀ (m:Nat) kv,cs[m]?=some kv→NamedK (handAt hs m) kv)) (h8_:σ=[v]):GX1 H2 hl hs i σ ys H'
inductive GX2 (K:PySem.W.Frag) (H1:Hp) (dn:Addr) (fm:Addr) (ff:List Addr) (A:Done) (h0:List (List (Key×V))) (hs:Hands) (p:Addr) (d:Addr) (a:Addr) (turn:Int) (hl:Addr) (k:Nat) (σ:St) (H':Hp):Prop
 | mk (num:Z2→Int) (fs:List FR) (v7:Option V) (v8:Option V) (v9:Option V) (v10:Option V) (v11:Option V) (h0_:GI K H1 H' dn fm ff (aWalk num (A.take k) ⟨[],h0⟩).done fs (aWalk num (A.take k) ⟨[],h0⟩).held) (h1_:HeldK h0 (aWalk num (A.take k) ⟨[],h0⟩).held) (h2_:fs.map (·.z)=readersOf (aWalk num (A.take k) ⟨[],h0⟩).done) (h3_:(∀ f∈fs,SrcOk hs (aWalk num (A.take k) ⟨[],h0⟩).done num f)) (h4_:(∀ r∈(aWalk num (A.take k) ⟨[],h0⟩).done,r∈A.take k)) (h5_:(aWalk num (A.take k) ⟨[],h0⟩).done.length≤k) (h6_:σ=[some (.ref p),some (.ref d),some (.ref a),some (.int turn),some (.ref dn),some (.ref fm),some (.ref hl),v7,v8,v9,v10,v11]):GX2 K H1 dn fm ff A h0 hs p d a turn hl k σ H'
inductive GX3 (k:Nat) (A:Done) (h0:List (List (Key×V))) (sk:GS) (K:PySem.W.Frag) (H1:Hp) (dn:Addr) (fm:Addr) (ff:List Addr) (m:Nat) (x:DD) (kv:List (Key×V)) (z':Z2) (hs:Hands) (p:Addr) (d:Addr) (a:Addr) (turn:Int) (hl:Addr) (o:TK) (ha:Addr) (σ:St) (H5:Hp):Prop
 | mk (num':Z2→Int) (fs':List FR) (w10:Option V) (w11:Option V) (h0_:aWalk num' (A.take k) ⟨[],h0⟩=sk) (h1_:GI K H1 H5 dn fm ff sk.done fs' (sk.held.set m (hasPut x.d kv (num' z')))) (h2_:HeldK h0 (sk.held.set m (hasPut x.d kv (num' z')))) (h3_:fs'.map (·.z)=readersOf (sk.done ++ [(z',x)])) (h4_:(∀ f∈fs',SrcOk hs sk.done num' f)) (h5_:σ=[some (.ref p),some (.ref d),some (.ref a),some (.int turn),some (.ref dn),some (.ref fm),some (.ref hl),some (.ref o.1),some (.ref x.a),some (.ref ha),w10,w11]):GX3 k A h0 sk K H1 dn fm ff m x kv z' hs p d a turn hl o ha σ H5
inductive GX4 (sm:Addr) (HB:Hp) (A:Done) (sk:GS) (z':Z2) (pl:Str) (p:Addr) (d:Addr) (a:Addr) (turn:Int) (dn:Addr) (fm:Addr) (hl:Addr) (o:TK) (x:DD) (ha:Addr) (j:Nat) (σ:St) (HC:Hp):Prop
 | mk (chs:List CH) (v11:Option V) (h0_:SameEx [sm] HB HC) (h1_:HC sm=some (.lst (.non :: chs.map fun c=>V.ref c.1))) (h2_:(∀ c∈chs,HC c.1=some (.tup ((pk c.2.1).map kV))∧Sure3 A sk.done z' pl c.2.1 c.2.2)) (h3_:chs.length≤j) (h4_:σ=[some (.ref p),some (.ref d),some (.ref a),some (.int turn),some (.ref dn),some (.ref fm),some (.ref hl),some (.ref o.1),some (.ref x.a),some (.ref ha),some (.ref sm),v11]):GX4 sm HB A sk z' pl p d a turn dn fm hl o x ha j σ HC
section
variable {P:Program} {w:World} {K:PySem.W.Frag} {mg:Str→Option Value} {base:Heap}
theorem sc_Lgone:FnScope ["_law_made","_law_deeds_here","_law_script","_law_turn","_law_done","_law_froms","_law_helds","_law_spot","_law_deed_here","_law_held","_law_some","_law_one"] ["_law_made","_law_deeds_here","_law_script","_law_turn"] (defScope s_Lgone):=⟨rfl,rfl,rfl,by decide +kernel,rfl,by decide +kernel,by decide +kernel⟩
theorem ok_Lgone {f:Addr} {fd:FuncData} (F:Fun K "_law_gone" "_law_gone" s_Lgone f fd) (T:Txt K mg) (h_Lnamed:Has P w K mg base 1 "_law_named" ["_law_hand"] (sp_Lnamed K)) (h_Lholds:Has P w K mg base 1 "_law_holds" ["_law_guard_here","_law_held"] (sp_Lholds K)) (h_Lwrites:Has P w K mg base 2 "_law_writes" ["_law_deeds_here","_law_place_here"] (sp_Lwrites K)) (h_Lplace:Has P w K mg base 1 "_law_place" ["_law_deed_here"] (sp_Lplace K)) (h_Lother:Has P w K mg base 1 "_law_other" ["_law_cell","_law_k"] (sp_Lother K)) (h_Lcellat:Has P w K mg base 1 "_law_cell_at" ["_law_script","_law_k"] (sp_Lcellat K)):FnOk P w K mg base CX0 3 f fd ["_law_made","_law_deeds_here","_law_script","_law_turn"] (sp_Lgone K):=by
 refine F.ok (k:=2) sc_Lgone (fun vs H Q E h=>?_) (fun cdv A outer s H vs Q E hr h=>?_)
 ·obtain ⟨p,d,a,ns,turn,hs,S,C,rfl,_⟩:=h
  rfl
 ·obtain ⟨p,d,a,ns,turn,hs,S,C,rfl,hP,G,htot,hd,hS,t0,t1,q⟩:=h
  have hu:=hu_of hr
  refine ⟨_,(pss_cons (ps_set (i:=4) sc_Lgone.nd rfl (Or.inl rfl) pe_dnewT)
   (pss_cons (ps_set (i:=5) sc_Lgone.nd rfl (Or.inl rfl) (pe_lst pa_nil))
   (pss_cons (ps_comp (i:=6) (Nc:=["_law_hand"]) (nt:=1) (js:=[]) rfl sc_Lgone.nd rfl rfl ⟨rfl,rfl,rfl,rfl,.nil,rfl,⟨["_law_hand"],[],rfl,rfl,.nil⟩⟩ (pi_list (pv 0)) (fun C s3 H3 fp pins=>⟨(pg_name (i:=0) (show (["_law_hand"]:List Str).Nodup by decide +kernel) rfl (Or.inl rfl)),pts_nil,(pe_fn h_Lnamed (hr.mono (by decide)) (pa_cons (pv 0) pa_nil))⟩))
   (pss_cons (ps_for PassesOwn.never rfl (pi_list (pe_callTy (call_list_keysT rfl) rfl T.n_list bt_list (pa_cons (pv 1) pa_nil))) (pg_name (i:=7) sc_Lgone.nd rfl (Or.inl rfl))
   (pss_cons (ps_set (i:=8) sc_Lgone.nd rfl (Or.inl rfl) (pe_dget hu (pv 1) (pv 7) (fun _ _=>rfl)))
   (pss_cons (ps_set (i:=9) sc_Lgone.nd rfl (Or.inl rfl) (pe_ix ix_list (pv 6) (pe_ix ix_tup (pv 7) pe_int (fun _ _=>rfl)) (fun _ _=>rfl)))
   (pss_cons (ps_if (pt_not (pt_val (pe_fn h_Lholds (hr.mono (by decide)) (pa_cons (pe_ix ix_tup (pv 8) (pe_un un_neg pe_int) (fun _ _=>rfl)) (pa_cons (pv 9) pa_nil)))))
   (pss_one ps_continue)
   pss_nil)
   (pss_cut (ps_if (pt_cmpR op_ne (pe_ix ix_tup (pv 8) pe_int (fun _ _=>rfl)) pe_str (nomark _))
   (pss_cons (ps_set (i:=10) sc_Lgone.nd rfl (Or.inl rfl) (pe_lst (pa_cons pe_non pa_nil)))
   (pss_cons (ps_for PassesOwn.never rfl (pi_list (pe_fn h_Lwrites (hr.mono (by decide)) (pa_cons (pv 1) (pa_cons (pe_fn h_Lplace (hr.mono (by decide)) (pa_cons (pv 8) pa_nil)) pa_nil)))) (pg_name (i:=11) sc_Lgone.nd rfl (Or.inl rfl))
   (pss_one (ps_if (PW.pt (pw_and (pt_cmpR (op_neC (hu_deep hr)) (pv 11) (pv 7) (nomark _)) (pw_and1 (PW.pt (pw_or (pt_cmpR op_isN (pe_ix ix_tup (pe_dget hu (pv 1) (pv 11) (fun _ _=>rfl)) (pe_un un_neg pe_int) (fun _ _=>rfl)) pe_non (nomark _)) (pw_or1 (pt_cmp (pc_din hu (pv 11) (pv 4)))))))))
   (pss_one (ps_expr (pe_bm PySem.F.plainAttrs_list PySem.F.slot_list_append PySem.F.type_list_append mt_append (pv 10) (pa_cons (pv 11) pa_nil))))
   pss_nil)))
   (pss_cons (ps_set (i:=11) sc_Lgone.nd rfl (Or.inl rfl) (pe_ix ix_list (pv 10) (pe_op op_mod (pe_fn h_Lother (hr.mono (by decide)) (pa_cons (pe_fn h_Lcellat (hr.mono (by decide)) (pa_cons (pv 2) (pa_cons (pe_op op_add pe_int (pe_callB call_lenT rfl T.n_len bt_len (pa_cons (pv 4) pa_nil))) pa_nil))) (pa_cons (pe_op op_add (pe_callB call_lenT rfl T.n_len bt_len (pa_cons (pv 4) pa_nil)) (pv 3)) pa_nil))) (pe_callB call_len_seq rfl T.n_len bt_len (pa_cons (pv 10) pa_nil))) (fun _ _=>rfl)))
   (pss_cons (ps_expr (pe_bm PySem.F.plainAttrs_list PySem.F.slot_list_append PySem.F.type_list_append mt_append (pv 5) (pa_cons (pe_tup (pa_cons (pv 7) (pa_cons (pv 11) pa_nil))) pa_nil)))
   (pss_cons (ps_dput hu (pv 9) (pe_ix ix_tup (pv 8) pe_int (fun _ _=>rfl)) pe_int rfl)
   (pss_one (ps_if (pt_cmpR op_notN (pv 11) pe_non (nomark _))
   (pss_one (ps_dput hu (pv 9) (pe_ix ix_tup (pv 8) pe_int (fun _ _=>rfl)) (pe_ix ix_tup (pe_dget hu (pv 1) (pv 11) (fun _ _=>rfl)) (pe_un un_neg pe_int) (fun _ _=>rfl)) rfl))
   pss_nil)))))))
   pss_nil)
   (pss_one (ps_dput hu (pv 4) (pv 7) pe_bl rfl)))))))
   (pss_one (ps_ret (pe_tup (pa_cons (pv 5) (pa_cons (pv 4) (pa_cons (pv 6) pa_nil)))))))))),?_⟩
  dsimp only [nox_K]
  refine fun dn hdn=>?_
  have hn6:=G.nh
  have s1:Same H (upd H dn (.dT [])):=Same.new hdn
  refine ⟨by decide,fun fm hfm=>?_⟩
  have s2:=s1.then (o:=.lst []) hfm
  have hdn2:=(Same.new (o:=.lst []) hfm) _ _ (upd_same (H:=H) (a:=dn) (o:=.dT []))
  have hfm2:=upd_same (H:=upd H dn (.dT [])) (a:=fm) (o:=.lst [])
  have hfmH:H fm=none:=s1.free hfm
  generalize upd (upd H dn (.dT [])) fm (.lst [])=H2 at s2 hdn2 hfm2 ⊢
  refine ⟨_,rfl,p,rfl,⟨_,s2.seq hP.l⟩,fun hl hhl=>?_⟩
  refine comp_list (xs:=hs.map fun h=>V.ref h.1) (GX1 H2 hl hs) ?_ ?_ ?_ ?_ ?_
  ·exact ⟨[],[],none,Same.new hhl,upd_same,rfl,⟨rfl,fun i a c e=>by simp at e⟩,rfl,(fun b hb=>nomatch hb),List.nodup_nil,(fun m kv e=>by simp at e),rfl⟩
  ·rintro i σ ys H' hi ⟨ff,cs,v,s,hhl',rfl,hF,hfl,hfr,nd,hN,rfl⟩
   exact ⟨(s2.trans s).seq hP.l,hhl',by rw [List.length_map]; lia⟩
  ·rw [List.length_map]; exact Nat.le_of_lt (small1000 (by lia))
  ·rintro i y σ ys H' hy ⟨ff,cs,v,s,hhl',rfl,hF,hfl,hfr,nd,hN,rfl⟩
   obtain ⟨h',hx,rfl⟩:=refs_get hy
   have hm:=List.mem_of_getElem? hx
   have hcl:=hF.len
   refine ⟨_,rfl,h'.1,h'.2,rfl,(hP.hs h' hm).same (s2.trans s),G.nd h' hm,fun b kv H3 s3 nb hb hkv=>?_⟩
   have hhl3:=s3 _ _ hhl'
   refine ⟨hhl3,ff ++ [b],cs ++ [kv],_,Same.at hhl (s.trans s3),upd_same,by rw [List.map_append]; rfl,⟨by rw [List.length_append,List.length_append,hcl]; rfl,fun j a c e1 e2=>?_⟩,by rw [List.length_append,hfl]; rfl,fun b' hb'=>?_,nd_snoc nd fun c=>?_,fun m kv' e=>?_,rfl⟩
   ·by_cases cj:j < ff.length
    ·rw [List.getElem?_append_left cj] at e1
     rw [List.getElem?_append_left (by lia)] at e2
     have e:=s3 _ _ (hF.at_ j a c e1 e2)
     rw [upd_ne (ne_of e hhl3 (by intro z; cases z))]
     exact e
    ·rw [List.getElem?_append_right (by lia)] at e1
     rw [List.getElem?_append_right (by lia),← hcl] at e2
     have e3:j - ff.length=0:=by
      have:=(List.getElem?_eq_some_iff.mp e1).1
      rw [List.length_cons,List.length_nil] at this
      lia
     rw [e3] at e1 e2
     cases e1
     cases e2
     rw [upd_ne (ne_of hb hhl3 (by intro z; cases z))]
     exact hb
   ·rcases List.mem_append.mp hb' with h | h
    ·exact hfr b' h
    ·rw [List.mem_singleton.mp h]; exact s.free nb
   ·obtain ⟨j,ej⟩:=List.getElem?_of_mem c
    have hj:j < cs.length:=by rw [← hcl]; exact (List.getElem?_eq_some_iff.mp ej).1
    have:=hF.at_ j b _ ej (List.getElem?_eq_getElem hj)
    rw [nb] at this
    cases this
   ·by_cases cm:m < cs.length
    ·rw [List.getElem?_append_left cm] at e
     exact hN m kv' e
    ·rw [List.getElem?_append_right (by lia)] at e
     have e3:m - cs.length=0:=by
      have:=(List.getElem?_eq_some_iff.mp e).1
      rw [List.length_cons,List.length_nil] at this
      lia
     have em:m=i:=by lia
     rw [e3] at e
     cases e
     rw [em,handAt_of hx]
     exact hkv
  rintro σ ys H3 ⟨ff,h0,v,s3,hhl3,rfl,hF3,hfl,hfr,ndf,hN0,rfl⟩
  rw [List.length_map] at hfl
  have h0l:h0.length=hs.length:=by rw [← hF3.len]; exact hfl
  have s03:=s2.trans s3
  refine ⟨_,rfl,d,_,rfl,.inl (s03 _ _ hd),fun kl as nkl ka=>?_⟩
  obtain ⟨ps,ea,hps⟩:=keyTups_pts ka
  have s34:Same H3 (upd H3 kl (.lst (as.map V.ref))):=Same.new nkl
  have hkl:(upd H3 kl (.lst (as.map V.ref))) kl=some (.lst (ps.map fun q=>V.ref q.1)):=by rw [upd_same,← ea,List.map_map]; rfl
  have hps4:=hps.same s34
  generalize upd H3 kl (.lst (as.map V.ref))=H1 at s34 hkl hps4 ⊢
  have s01:=s03.trans s34
  have hP1:=hP.same s01
  have hd1:=s01 _ _ hd
  have hhl1:=s34 _ _ hhl3
  have ndA:=(progAll_rising hs hs.length).nodup
  have a40:=all40 htot
  have hA1:∀ q∈progAll hs hs.length,IsDeed K H1 q.2∧pt q.2.d=true:=fun q hq=>⟨all_in hP1 hq,progAll_pt hq⟩
  have hAd:∀ q∈progAll hs hs.length,ddAt hs q.1=some q.2:=fun q hq=>progAll_dd (Nat.le_refl _) hq
  have hAh:∀ q∈progAll hs hs.length,∃ m:Nat,q.1.1=(m:Int)∧m < hs.length∧q.2∈handAt hs m:=fun q hq=>progAll_hand (Nat.le_refl _) hq
  have hrel:∀ num:Z2→Int,ProgR hs h0 hs.length (aWalk num (progAll hs hs.length) ⟨[],h0⟩) (progW num hs hs.length):=fun num=>prog_rel G h0l (fun kv hkv c=>by
   obtain ⟨m,em⟩:=List.getElem?_of_mem hkv
   exact (hN0 m kv em).z c) hs.length (Nat.le_refl _)
  generalize hAe:progAll hs hs.length=A at hps4 ndA a40 hA1 hAd hAh hrel hd1
  have psl:ps.length=A.length:=by rw [hps4.len,List.length_map]
  have out:∀ {b:Addr} {u:HO},H b=some u→b ∉ dn :: fm :: ff:=fun {b u} e c=>by
   rcases List.mem_cons.mp c with c | c
   ·rw [c,hdn] at e; cases e
   ·rcases List.mem_cons.mp c with c | c
    ·rw [c,hfmH] at e; cases e
    ·rw [s2.free (hfr b c)] at e; cases e
  have seq:∀ {Hx:Hp} {b:Addr} {xs:List V},SameEx (dn :: fm :: ff) H1 Hx→SqL K H b xs→SqL K Hx b xs:=fun ex h=>by
   rcases h with (h | ⟨o,h⟩) | h
   ·exact .inl (.inl (ex _ _ (out h) (s01 _ _ h)))
   ·exact .inl (.inr ⟨o,ex _ _ (out h) (s01 _ _ h)⟩)
   ·exact .inr h
  have hlout:hl ∉ dn :: fm :: ff:=fun c=>by
   rcases List.mem_cons.mp c with c | c
   ·rw [c,s34 _ _ (s3 _ _ hdn2)] at hhl1; cases hhl1
   ·rcases List.mem_cons.mp c with c | c
    ·rw [c,hfm2] at hhl; cases hhl
    ·obtain ⟨i,hi⟩:=List.getElem?_of_mem c
     have hil:i < h0.length:=by rw [← hF3.len]; exact (List.getElem?_eq_some_iff.mp hi).1
     have:=hF3.at_ i hl _ hi (List.getElem?_eq_getElem hil)
     rw [this] at hhl3; cases hhl3
  have klout:kl ∉ dn :: fm :: ff:=fun c=>by
   rcases List.mem_cons.mp c with c | c
   ·rw [c,s3 _ _ hdn2] at nkl; cases nkl
   ·rcases List.mem_cons.mp c with c | c
    ·rw [c,s3 _ _ hfm2] at nkl; cases nkl
    ·obtain ⟨i,hi⟩:=List.getElem?_of_mem c
     have hil:i < h0.length:=by rw [← hF3.len]; exact (List.getElem?_eq_some_iff.mp hi).1
     have:=hF3.at_ i kl _ hi (List.getElem?_eq_getElem hil)
     rw [nkl] at this; cases this
  have tout:∀ {b:Addr} {ys:List V},H1 b=some (.tup ys)→b ∉ dn :: fm :: ff:=fun {b ys} e c=>by
   rcases List.mem_cons.mp c with c | c
   ·rw [c,s34 _ _ (s3 _ _ hdn2)] at e; cases e
   ·rcases List.mem_cons.mp c with c | c
    ·rw [c,s34 _ _ (s3 _ _ hfm2)] at e; cases e
    ·obtain ⟨i,hi⟩:=List.getElem?_of_mem c
     have hil:i < h0.length:=by rw [← hF3.len]; exact (List.getElem?_eq_some_iff.mp hi).1
     rw [s34 _ _ (hF3.at_ i b _ hi (List.getElem?_eq_getElem hil))] at e; cases e
  have deedx:∀ {Hx:Hp},SameEx (dn :: fm :: ff) H1 Hx→∀ q∈A,IsDeed K Hx q.2:=fun {Hx} ex q hq=>by
   have tq:∀ {b:Addr} {ys:List V},SqT K H1 b ys→SqT K Hx b ys:=fun {b ys} h=>by
    rcases h with (h | ⟨o,h⟩) | h
    ·exact .inl (.inl (ex _ _ (tout h) h))
    ·refine .inl (.inr ⟨o,ex _ _ (fun c=>?_) h⟩)
     rcases List.mem_cons.mp c with c | c
     ·rw [c,s34 _ _ (s3 _ _ hdn2)] at h; cases h
     ·rcases List.mem_cons.mp c with c | c
      ·rw [c,s34 _ _ (s3 _ _ hfm2)] at h; cases h
      ·obtain ⟨i,hi⟩:=List.getElem?_of_mem c
       have hil:i < h0.length:=by rw [← hF3.len]; exact (List.getElem?_eq_some_iff.mp hi).1
       rw [s34 _ _ (hF3.at_ i b _ hi (List.getElem?_eq_getElem hil))] at h; cases h
    ·exact .inr h
   have hx:=(hA1 q hq).1
   refine ⟨tq hx.t,?_⟩
   have g:=hx.g
   unfold DD.gok at g ⊢
   cases e:q.2.g with
   | none=>rw [e] at g; exact g
   | some c =>
    rw [e] at g
    obtain ⟨r,h1,h2⟩:=g
    exact ⟨r,h1,tq h2⟩
  refine ⟨kl,rfl,⟨_,SqL.of hkl⟩,for_list (xs:=ps.map fun q=>V.ref q.1) (GX2 K H1 dn fm ff A h0 hs p d a turn hl) ?_ ?_ ?_ ?_⟩
  ·exact ⟨fun _=>0,[],none,none,none,none,none,⟨fun b u _ e=>e,s34 _ _ (s3 _ _ hdn2),s34 _ _ (s3 _ _ hfm2),(fun f hf=>nomatch hf),hF3.same s34⟩,⟨rfl,fun m kv e=>⟨(hN0 m kv e).i,kv,e,rfl⟩⟩,rfl,(fun f hf=>nomatch hf),(fun r hr=>nomatch hr),Nat.le_refl _,rfl⟩
  ·rintro k σ H' _ ⟨num,fs,v7,v8,v9,v10,v11,g,_⟩
   exact SqL.of (g.ex _ _ klout hkl)
  ·rintro k y σ H' hy ⟨num,fs,v7,v8,v9,v10,v11,g,hK,hrd,hso,hin,hdl,rfl⟩
   obtain ⟨o,ho,rfl⟩:=refs_get hy
   have hk:k < A.length:=by rw [← psl]; exact (List.getElem?_eq_some_iff.mp ho).1
   obtain ⟨qz,eq⟩:∃ qz,A[k]?=some qz:=⟨_,List.getElem?_eq_getElem hk⟩
   obtain ⟨z,x⟩:=qz
   have hqm:=List.mem_of_getElem? eq
   obtain ⟨z',hz1,hz2,hz3⟩:=hps4.get ho
   have ez:z'=z:=by rw [List.getElem?_map,eq] at hz1; exact (Option.some.inj hz1).symm
   subst ez
   have hoT1:H1 o.1=some (.tup ((pk z').map kV)):=hz3
   have hoT:∀ {Hx:Hp},SameEx (dn :: fm :: ff) H1 Hx→Hx o.1=some (.tup ((pk z').map kV)):=fun ex=>ex _ _ (tout hoT1) hoT1
   obtain ⟨m,em,hmh,hxh⟩:=hAh _ hqm
   have em:z'.1=(m:Int):=em
   have hxh:x∈handAt hs m:=hxh
   have etk:A.take (k + 1)=A.take k ++ [(z',x)]:=by rw [List.take_add_one,eq]; rfl
   have hnew:∀ r∈A.take k,r.1≠z':=fun r hr e=>by
    have nd2:((A.take (k + 1)).map (·.1)).Nodup:=ndA.sublist ((List.take_sublist _ _).map _)
    rw [etk,List.map_append] at nd2
    exact (List.nodup_append.mp nd2).2.2 r.1 (List.mem_map.mpr ⟨r,hr,rfl⟩) z' (List.mem_singleton.mpr rfl) e
   generalize hse:aWalk num (A.take k) ⟨[],h0⟩=sk at g hK hrd hso hin hdl
   have hz0:∀ r∈sk.done,r.1≠z':=fun r hr=>hnew r (hin r hr)
   have hmc:m < sk.held.length:=by rw [hK.len,h0l]; exact hmh
   obtain ⟨kv,ekv⟩:∃ kv,sk.held[m]?=some kv:=⟨_,List.getElem?_eq_getElem hmc⟩
   have hff:ff[m]?=some ff[m]:=List.getElem?_eq_getElem (by lia)
   generalize ff[m]=ha at hff
   have hkvH:=g.fa.at_ m ha kv hff ekv
   obtain ⟨hIn,kv0,ek0,ekk⟩:=hK.at_ m kv ekv
   have hNk:=hN0 m kv0 ek0
   have ixh:atI (ff.map V.ref) z'.1=some (.ref ha):=by rw [em]; exact atI_nat (by rw [List.getElem?_map,hff]; rfl)
   have hx:=deedx g.ex _ hqm
   have hc:=(hA1 _ hqm).2
   have hc:pt x.d=true:=hc
   have dg:∀ {Hx:Hp} {y:Z2} {e:DD} {t:Addr},SameEx (dn :: fm :: ff) H1 Hx→(y,e)∈A→Hx t=some (.tup ((pk y).map kV))→DGet Hx d (.ref t) (some (.ref e.a)):=fun {Hx y e t} ex hm ht=>by
    have:=DGet.t (ex _ _ (out hd) hd1) ht
    rw [val_done ndA hm] at this
    exact this
   refine ⟨_,rfl,_,rfl,d,_,rfl,dg g.ex hqm (hoT g.ex),?_⟩
   refine ⟨_,rfl,_,rfl,o.1,_,_,_,rfl,rfl,SqT.of (hoT g.ex),atI_nat (j:=0) rfl,hl,_,_,_,rfl,rfl,SqL.of (g.ex _ _ hlout hhl1),ixh,?_⟩
   refine ⟨_,rfl,1,rfl,x.a,_,_,_,rfl,rfl,hx.t,guard_at x.d,_,rfl,x.d.guard,ha,kv,x.g,rfl,hkvH,hIn,DD.gok_ok hx.g,?_⟩
   have stepE:∀ num':Z2→Int,aWalk num' (A.take k) ⟨[],h0⟩=sk→aWalk num' (A.take (k + 1)) ⟨[],h0⟩=if holdsG x.g kv=true then ⟨sk.done ++ [(z',x)],sk.held.set m (hasPut x.d kv (num' z'))⟩ else sk:=fun num' e=>by
    rw [etk,aWalk_snoc,e]
    unfold aStep
    have et:z'.1.toNat=m:=by rw [em]; exact Int.toNat_natCast m
    dsimp only
    rw [et,ekv]
   by_cases b:holdsG x.g kv=true
   ·rw [b]
    refine ⟨_,rfl,iteF ?_⟩
    have d40:sk.done.length≤40:=by lia
    have dl:(doneT sk.done).length=sk.done.length:=List.length_map ..
    refine ⟨GX3 k A h0 sk K H1 dn fm ff m x kv z' hs p d a turn hl o ha,?_,?_⟩
    ·by_cases cw:wordOf x.d="put"
     ·have hno:=reads_no cw
      refine ⟨_,rfl,x.a,_,_,_,rfl,rfl,hx.t,word_at x.d,rfl,_,rfl,ifNf (by rw [cw]) ⟨num,fs,_,_,hse,?_,?_,?_,hso,rfl⟩⟩
      ·rw [hasPut_no hno,set_same ekv]; exact g
      ·rw [hasPut_no hno,set_same ekv]; exact hK
      ·rw [readers_snoc,hno,if_neg Bool.false_ne_true,List.append_nil]; exact hrd
     ·have hrdx:=reads_of hc cw
      obtain ⟨cu,cu1,cu2⟩:=cup_fill hrdx
      obtain ⟨pl,_,hpl⟩:=place_spot hc
      have cuk:(Sum.inr cu:Key)∈kv.map (·.1):=by
       rw [ekk]
       exact (hNk.k cu).mpr ⟨x,hxh,.inl (by rw [cu1]; exact List.mem_singleton.mpr rfl)⟩
      refine ⟨_,rfl,x.a,_,_,_,rfl,rfl,hx.t,word_at x.d,rfl,_,rfl,ifNt (fun e=>cw (by injection e)) ?_⟩
      refine ⟨by decide,fun sm hsm=>?_⟩
      have sA:Same H' (upd H' sm (.lst [.non])):=Same.new hsm
      have gA:=g.same sA
      have hsmA:=upd_same (H:=H') (a:=sm) (o:=.lst [.non])
      have smo:sm ∉ dn :: fm :: ff:=fun c=>by
       rcases List.mem_cons.mp c with c | c
       ·rw [c,g.edn] at hsm; cases hsm
       ·rcases List.mem_cons.mp c with c | c
        ·rw [c,g.efm] at hsm; cases hsm
        ·obtain ⟨kk,e⟩:=g.dict c
         rw [e] at hsm; cases hsm
      generalize upd H' sm (.lst [.non])=HA at sA gA hsmA ⊢
      have hxA:=deedx gA.ex _ hqm
      refine ⟨_,rfl,_,rfl,x.a,x.d,rfl,hxA.t,hc,?_⟩
      rw [hpl]
      refine ⟨d,A,pl,rfl,gA.ex _ _ (out hd) hd1,by lia,ndA,fun r hr=>⟨deedx gA.ex r hr,(hA1 r hr).2⟩,fun wl wps HB sB nwl hwl hwp=>?_⟩
      have gB:=gA.same sB
      have hsmB:=sB _ _ hsmA
      have wlsm:wl≠sm:=fun e=>by rw [e,hsmA] at nwl; cases nwl
      have wlen:wps.length≤40:=by
       rw [hwp.len]
       unfold writersTo
       rw [List.length_map]
       exact Nat.le_trans (List.length_filter_le _ _) a40
      have exof:∀ {HC:Hp},SameEx [sm] HB HC→SameEx (dn :: fm :: ff) H1 HC:=fun {HC} ex b u hb e=>by
       have h2:=g.ex b u hb e
       refine ex b u (fun c=>?_) (gB.ex b u hb e)
       rw [List.mem_singleton.mp c,hsm] at h2
       cases h2
      have dnof:∀ {HC:Hp},SameEx [sm] HB HC→HC dn=some (.dT (doneT sk.done)):=fun {HC} ex=>ex _ _ (fun c=>smo (by rw [← List.mem_singleton.mp c]; exact List.mem_cons_self ..)) gB.edn
      refine ⟨wl,rfl,⟨_,SqL.of hwl⟩,for_list (xs:=wps.map fun q=>V.ref q.1) (GX4 sm HB A sk z' pl p d a turn dn fm hl o x ha) ?_ ?_ ?_ ?_⟩
      ·exact ⟨[],_,fun b u _ e=>e,hsmB,(fun c hc=>nomatch hc),Nat.le_refl _,rfl⟩
      ·rintro j σ HC _ ⟨chs,v11',ex,_⟩
       exact ex.seq (fun c=>wlsm (List.mem_singleton.mp c)) (SqL.of hwl)
      ·rintro j y2 σ HC hy2 ⟨chs,v11',ex,hsmC,hch,hcl,rfl⟩
       obtain ⟨t,ht,rfl⟩:=refs_get hy2
       have hj:j < wps.length:=(List.getElem?_eq_some_iff.mp ht).1
       obtain ⟨yz,hy1,hy3,hy4⟩:=hwp.get ht
       have hyw:yz∈writersTo A pl:=List.mem_of_getElem? hy1
       unfold writersTo at hyw
       obtain ⟨r,hr1,hr2⟩:=List.mem_map.mp hyw
       obtain ⟨hrA,hrT⟩:=List.mem_filter.mp hr1
       obtain ⟨y,e⟩:=r
       have hr2:y=yz:=hr2
       subst hr2
       unfold isTo at hrT
       rw [Bool.and_eq_true] at hrT
       have ew:e.d.writes=true:=hrT.1
       have ep:e.d.place=.str pl:=of_decide_eq_true hrT.2
       have nt:∀ {b:Addr} {ys:List V},HB b=some (.tup ys)→b ∉ [sm]:=fun {b ys} h c=>by rw [List.mem_singleton.mp c,hsmB] at h; cases h
       have htC:=ex _ _ (nt hy4) hy4
       have exC:=exof ex
       have hoC:=hoT exC
       have eC:=deedx exC _ hrA
       have eC:IsDeed K HC e:=eC
       have dnC:=dnof ex
       have stay:GX4 sm HB A sk z' pl p d a turn dn fm hl o x ha (j + 1) [some (V.ref p),some (.ref d),some (.ref a),some (.int turn),some (.ref dn),some (.ref fm),some (.ref hl),some (.ref o.1),some (.ref x.a),some (.ref ha),some (.ref sm),some (.ref t.1)] HC:=⟨chs,_,ex,hsmC,hch,by lia,rfl⟩
       refine ⟨_,rfl,_,rfl,t.1,o.1,_,rfl,rfl,DT.keys (xs:=pk y) (ys:=pk z') (SqT.of htC) (SqT.of hoC),?_⟩
       by_cases cz:y=z'
       ·rw [decide_eq_true (show pk y=pk z' by rw [cz])]
        exact ⟨_,rfl,iteF stay⟩
       ·rw [decide_eq_false (fun h=>cz (pk_inj h))]
        refine ⟨_,rfl,iteT ?_⟩
        have app:Sure3 A sk.done z' pl y e→GX4 sm HB A sk z' pl p d a turn dn fm hl o x ha (j + 1) [some (V.ref p),some (.ref d),some (.ref a),some (.int turn),some (.ref dn),some (.ref fm),some (.ref hl),some (.ref o.1),some (.ref x.a),some (.ref ha),some (.ref sm),some (.ref t.1)] (upd HC sm (.lst ((V.non :: chs.map fun c=>V.ref c.1) ++ [.ref t.1]))):=fun hsu=>by
         have up:∀ {b:Addr} {ys:List V},HC b=some (.tup ys)→(upd HC sm (.lst ((.non :: chs.map fun c=>V.ref c.1) ++ [.ref t.1]))) b=some (.tup ys):=fun h=>by rw [upd_ne (ne_of h hsmC (by intro z; cases z))]; exact h
         refine ⟨chs ++ [(t.1,y,e)],_,ex.put (List.mem_singleton.mpr rfl),by rw [upd_same,List.map_append]; rfl,fun c hc'=>?_,by rw [List.length_append]; exact Nat.succ_le_succ hcl,rfl⟩
         rcases List.mem_append.mp hc' with h | h
         ·exact ⟨up (hch c h).1,(hch c h).2⟩
         ·rw [List.mem_singleton.mp h]; exact ⟨up htC,hsu⟩
        have sl:(V.non :: chs.map fun c=>V.ref c.1).length < sizeLine:=by
         rw [List.length_cons,List.length_map]; exact small1000 (by lia)
        refine ⟨_,rfl,_,rfl,d,_,rfl,dg exC hrA htC,1,rfl,e.a,_,_,_,rfl,rfl,eC.t,guard_at e.d,rfl,_,rfl,?_⟩
        have gk:=DD.gok_ok eC.g
        cases hg:e.g with
        | none =>
         rw [hg] at gk
         exact ifDt gk (iteT ⟨_,rfl,.inl ⟨rfl,_,SqL.of hsmC⟩,_,rfl,sm,_,_,rfl,rfl,hsmC,sl,app ⟨cz,hrA,ew,ep,.inl hg⟩⟩)
        | some gg =>
         rw [hg] at gk
         obtain ⟨qa,e1,_⟩:=gk
         refine ifDf (fun z=>by rw [e1] at z; cases z) ?_
         refine ⟨_,rfl,_,rfl,dn,_,rfl,DGet.t (k:=pk y) dnC htC,_,rfl,?_⟩
         rw [val_doneT]
         by_cases c2:y∈sk.done.map (·.1)
         ·rw [if_pos c2]
          exact iteT ⟨_,rfl,.inl ⟨rfl,_,SqL.of hsmC⟩,_,rfl,sm,_,_,rfl,rfl,hsmC,sl,app ⟨cz,hrA,ew,ep,.inr c2⟩⟩
         ·rw [if_neg c2]
          exact iteF stay
      ·rintro σ HC ⟨chs,v11',ex,hsmC,hch,hcl,rfl⟩
       rw [List.length_map] at hcl
       have exC:=exof ex
       have dnC:=dnof ex
       have nsm:∀ {b:Addr} {u:HO},HB b=some u→(∀ xs,u≠.lst xs)→b ∉ [sm]:=fun {b u} h hu c=>by
        rw [List.mem_singleton.mp c,hsmB] at h
        exact hu _ (Option.some.inj h).symm
       have gC:GI K H1 HC dn fm ff sk.done fs sk.held:=⟨exC,dnC,ex _ _ (fun c=>smo (by rw [← List.mem_singleton.mp c]; exact List.mem_cons_of_mem _ (List.mem_cons_self ..))) gB.efm,fun f hf=>⟨ex _ _ (nsm (gB.fp f hf).1 (fun _ e=>nomatch e)) (gB.fp f hf).1,ex _ _ (nsm (gB.fp f hf).2.1 (fun _ e=>nomatch e)) (gB.fp f hf).2.1,(gB.fp f hf).2.2.ex1 ex hsmB⟩,⟨gB.fa.len,fun i a c e1 e2=>ex _ _ (nsm (gB.fa.at_ i a c e1 e2) (fun _ e=>nomatch e)) (gB.fa.at_ i a c e1 e2)⟩⟩
       have sl:(V.non :: chs.map fun c=>V.ref c.1).length=chs.length + 1:=by rw [List.length_cons,List.length_map]
       refine ⟨_,rfl,_,rfl,_,rfl,dn,_,rfl,dnC,_,_,rfl,rfl,a,ns,_,rfl,seq exC hS,by lia,_,rfl,dn,_,rfl,dnC,_,rfl,_,_,rfl,rfl,_,_,rfl,by lia,by lia,fun mm hmm=>?_⟩
       have hL0:(0:Int) < ((V.non :: chs.map fun c=>V.ref c.1).length:Int):=by lia
       have m0:=Int.emod_nonneg mm (show ((V.non :: chs.map fun c=>V.ref c.1).length:Int)≠0 by lia)
       have m1:=Int.emod_lt_of_pos mm hL0
       obtain ⟨jj,ejj⟩:=Int.eq_ofNat_of_zero_le m0
       obtain ⟨v,oo,ev,hsv,hor⟩:Ex_2_3 (fun (v:V) (oo:Option Z2)=>atI (V.non :: chs.map fun c=>V.ref c.1) (mm % ((V.non :: chs.map fun c=>V.ref c.1).length:Int))=some v) (fun v oo=>SrcV K HC v oo) (fun v oo=>((v=.non∧oo=none)∨∃ c∈chs,v=.ref c.1∧oo=some c.2.1)):=by
        rw [ejj]
        cases jj with
        | zero=>exact ⟨.non,none,atI_nat rfl,rfl,.inl ⟨rfl,rfl⟩⟩
        | succ jj =>
         have hjj:jj < chs.length:=by lia
         have ec:chs[jj]?=some chs[jj]:=List.getElem?_eq_getElem hjj
         have hcm:=List.getElem_mem hjj
         exact ⟨.ref chs[jj].1,some chs[jj].2.1,atI_nat (by rw [List.getElem?_cons_succ,List.getElem?_map,ec]; rfl),⟨_,rfl,SqT.of (hch _ hcm).1⟩,.inr ⟨_,hcm,rfl,rfl⟩⟩
       refine ⟨_,rfl,sm,_,rfl,.inl (SqL.of hsmC),_,_,rfl,rfl,hL0,sm,_,_,_,rfl,rfl,SqL.of hsmC,ev,?_⟩
       have fl:fs.length≤40:=by
        have e1:=congrArg List.length hrd
        rw [List.length_map] at e1
        have e2:(readersOf sk.done).length≤sk.done.length:=by unfold readersOf; rw [List.length_map]; exact List.length_filter_le _ _
        lia
       refine ⟨_,rfl,.inl ⟨rfl,_,SqL.of gC.efm⟩,_,rfl,_,rfl,(by show 2≤sizeLine; decide),fun pr hpr=>⟨fm,_,_,rfl,rfl,(Same.new hpr) _ _ gC.efm,(by rw [List.length_map]; exact small1000 (by lia)),?_⟩⟩
       have sD:Same HC (upd HC pr (.tup [.ref o.1,v])):=Same.new hpr
       have gD:=(gC.same sD).from_ (f:=⟨pr,o.1,z',v,oo⟩) upd_same (sD _ _ (hoT exC)) (hsv.same sD)
       have chD:∀ c∈chs,(upd (upd HC pr (.tup [.ref o.1,v])) fm (.lst ((fs.map fun f=>V.ref f.a) ++ [.ref pr]))) c.1=some (.tup ((pk c.2.1).map kV)):=fun c hc'=>by
        have e:=sD _ _ (hch c hc').1
        rw [upd_ne (ne_of e (sD _ _ gC.efm) (by intro z; cases z))]
        exact e
       generalize upd (upd HC pr (.tup [.ref o.1,v])) fm (.lst ((fs.map fun f=>V.ref f.a) ++ [.ref pr]))=HD at gD chD ⊢
       have hxD:=deedx gD.ex _ hqm
       have hkvD:=gD.fa.at_ m ha kv hff ekv
       have kl80:kv.length≤80:=by
        have e1:=congrArg List.length ekk
        rw [List.length_map,List.length_map] at e1
        have:=hNk.n
        have:=handAt_len G m
        lia
       refine ⟨_,rfl,_,rfl,x.a,_,_,_,rfl,rfl,hxD.t,fill_at cu1,ha,_,rfl,DPut.k (k:=Sum.inr cu) hkvD (small1000 (by lia)),?_⟩
       have gE:=gD.cup (kv':=putK kv (Sum.inr cu) (.int 0)) ndf hff ekv
       have chE:∀ c∈chs,(upd HD ha (.dK (putK kv (Sum.inr cu) (.int 0)))) c.1=some (.tup ((pk c.2.1).map kV)):=fun c hc'=>by
        have e:=chD c hc'
        rw [upd_ne (ne_of e hkvD (by intro z; cases z))]
        exact e
       generalize upd HD ha (.dK (putK kv (Sum.inr cu) (.int 0)))=HE at gE chE ⊢
       have fin:∀ (n:Int) (HF:Hp) (w10 w11:Option V),n=numAt hs oo→GI K H1 HF dn fm ff sk.done (fs ++ [⟨pr,o.1,z',v,oo⟩]) (sk.held.set m (putK kv (Sum.inr cu) (.int n)))→GX3 k A h0 sk K H1 dn fm ff m x kv z' hs p d a turn hl o ha [some (V.ref p),some (.ref d),some (.ref a),some (.int turn),some (.ref dn),some (.ref fm),some (.ref hl),some (.ref o.1),some (.ref x.a),some (.ref ha),w10,w11] HF:=fun n HF w10 w11 en gF=>by
        have nz:setN num z' n z'=n:=by unfold setN; rw [if_pos rfl]
        have no:∀ y,y≠z'→setN num z' n y=num y:=fun y hy=>by unfold setN; rw [if_neg hy]
        have hp:hasPut x.d kv (setN num z' n z')=putK kv (Sum.inr cu) (.int n):=by rw [nz]; exact hasPut_read hrdx cu2
        refine ⟨setN num z' n,_,w10,w11,?_,by rw [hp]; exact gF,hK.set ekv (hasPut_ints _ hIn) (hasPut_keys fun c hc'=>by rw [cu1] at hc'; rw [List.mem_singleton.mp hc']; exact cuk),?_,fun f hf=>?_,rfl⟩
        ·rw [← hse]
         exact aWalk_congr fun r hr=>no _ (hnew r hr)
        ·rw [List.map_append,hrd,readers_snoc,if_pos hrdx]; rfl
        ·rcases List.mem_append.mp hf with h | h
         ·refine (hso f h).num (no _ fun e=>?_)
          have:f.z∈readersOf sk.done:=by rw [← hrd]; exact List.mem_map.mpr ⟨f,h,rfl⟩
          unfold readersOf at this
          obtain ⟨r,hr,er⟩:=List.mem_map.mp this
          exact hz0 r (List.mem_filter.mp hr).1 (er.trans e)
         ·rw [List.mem_singleton.mp h]
          refine ⟨nz.trans en,fun y hy=>?_⟩
          have hy:oo=some y:=hy
          rcases hor with ⟨_,e2⟩ | ⟨c,hcm,_,e2⟩
          ·rw [e2] at hy; cases hy
          ·rw [e2] at hy
           cases hy
           have su:=(hch c hcm).2
           exact ⟨su.ne,c.2.2,x,pl,by rw [hAe]; exact su.i,su.w,su.p,by rw [hAe]; exact hqm,hpl,su.s⟩
       rcases hor with ⟨rfl,rfl⟩ | ⟨c,hcm,rfl,rfl⟩
       ·exact ⟨_,rfl,rfl,_,rfl,ifNf rfl (fin 0 _ _ _ rfl gE)⟩
       ·have su:=(hch c hcm).2
        have hcE:=deedx gE.ex _ su.i
        have hcE:IsDeed K HE c.2.2:=hcE
        have hxE:=deedx gE.ex _ hqm
        have eE:(sk.held.set m (putK kv (Sum.inr cu) (.int 0)))[m]?=some (putK kv (Sum.inr cu) (.int 0)):=List.getElem?_set_self hmc
        have hkvE:=gE.fa.at_ m ha _ hff eE
        have l2:(putK kv (Sum.inr cu) (.int 0):List (Key×V)).length < sizeLine:=by
         have e1:=congrArg List.length (putK_same (v:=.int 0) cuk)
         rw [List.length_map,List.length_map] at e1
         rw [e1]; exact small1000 (by lia)
        refine ⟨_,rfl,rfl,_,rfl,ifNt (fun z=>nomatch z) ?_⟩
        refine ⟨_,rfl,_,rfl,d,_,rfl,dg gE.ex su.i (chE c hcm),2,rfl,c.2.2.a,_,_,_,rfl,rfl,hcE.t,number_at' su.w,_,rfl,_,rfl,x.a,_,_,_,rfl,rfl,hxE.t,fill_at cu1,ha,_,rfl,DPut.k (k:=Sum.inr cu) hkvE l2,?_⟩
        refine fin (numOf c.2.2.d) _ _ _ ?_ ?_
        ·show numOf c.2.2.d=match ddAt hs c.2.1 with | some x=>numOf x.d | none=>0
         rw [hAd _ su.i]
        ·have gF:=gE.cup (kv':=putK (putK kv (Sum.inr cu) (.int 0)) (Sum.inr cu) (.int (numOf c.2.2.d))) ndf hff eE
         rw [List.set_set,putK_twice cuk] at gF
         rw [putK_twice cuk]
         exact gF
    ·rintro σ H5 ⟨num',fs',w10,w11,e5,g5,hK5,hrd5,hso5,rfl⟩
     refine ⟨_,rfl,_,rfl,dn,_,rfl,DPut.t g5.edn (hoT g5.ex) (by rw [dl]; exact small1000 (by lia)),?_⟩
     have e6:=stepE num' e5
     rw [if_pos b] at e6
     refine ⟨num',fs',_,_,_,_,_,?_,?_,?_,?_,?_,?_,rfl⟩
     ·rw [e6]; exact g5.put hz0
     ·rw [e6]; exact hK5
     ·rw [e6]; exact hrd5
     ·rw [e6]
      exact fun f hf=>(hso5 f hf).more fun y hy=>by rw [List.map_append]; exact List.mem_append_left _ hy
     ·rw [e6,etk]
      intro r hr
      rcases List.mem_append.mp hr with h | h
      ·exact List.mem_append_left _ (hin r h)
      ·exact List.mem_append_right _ h
     ·rw [e6]
      show (sk.done ++ [(z',x)]).length≤k + 1
      rw [List.length_append]
      exact Nat.succ_le_succ hdl
   ·have bf:holdsG x.g kv=false:=by simpa using b
    rw [bf]
    have e6:=stepE num hse
    rw [if_neg b] at e6
    refine ⟨_,rfl,iteT ⟨num,fs,_,_,_,_,_,by rw [e6]; exact g,by rw [e6]; exact hK,by rw [e6]; exact hrd,by rw [e6]; exact hso,?_,by rw [e6]; lia,rfl⟩⟩
    rw [e6,etk]
    exact fun r hr=>List.mem_append_left _ (hin r hr)
  ·rintro σ H' ⟨num,fs,v7,v8,v9,v10,v11,g,hK,hrd,hso,hin,hdl,rfl⟩
   rw [List.length_map,psl,List.take_of_length_le (Nat.le_refl _)] at g hK hrd hso hin hdl
   have rel:=hrel num
   rw [rel.d] at g hrd hso hdl
   refine ⟨_,rfl,_,rfl,_,rfl,(by show 3≤sizeLine; decide),fun T hT=>?_⟩
   have sT:Same H' (upd H' T (.tup [.ref fm,.ref dn,.ref hl])):=Same.new hT
   have gT:=g.same sT
   have hlT:=sT _ _ (g.ex _ _ hlout hhl1)
   refine q T dn fm hl ff fs _ num _ (fun b u e=>sT _ _ (g.ex b u (out e) (s01 b u e))) upd_same ⟨gT.edn,gT.efm,gT.fp,hlT,gT.fa,hrd,hso,?_,by rw [hK.len]; exact h0l,fun m kv e=>?_⟩
   ·have e1:=congrArg List.length hrd
    rw [List.length_map] at e1
    have e2:(readersOf (progW num hs hs.length).done).length≤(progW num hs hs.length).done.length:=by unfold readersOf; rw [List.length_map]; exact List.length_filter_le _ _
    lia
   ·obtain ⟨i1,kv0,i2,i3⟩:=hK.at_ m kv e
    have nk:=hN0 m kv0 i2
    have ml:m < hs.length:=by rw [← h0l]; exact (List.getElem?_eq_some_iff.mp i2).1
    obtain ⟨kv',f,f1,f2,f3⟩:=rel.k m ml
    rw [e] at f1
    cases f1
    refine ⟨i1,by rw [i3]; exact nk.nd,?_,fun c=>by rw [i3]; exact nk.k c,f,f2,f3⟩
    have e1:=congrArg List.length i3
    rw [List.length_map,List.length_map] at e1
    have:=nk.n
    have:=handAt_len G m
    lia
end
end Own
--#dictT
set_option Elab.async false
set_option linter.all false
set_option maxRecDepth 100000
set_option maxHeartbeats 4100000
namespace Own
open PySem L2
theorem in_snoc {B D:Done} {j:Nat} {q:Z2×DD} (e:B[j]?=some q):(((B.take (j + 1)).filter (inD D)).map (·.1))=(((B.take j).filter (inD D)).map (·.1)) ++ (if q.1∈D.map (·.1) then [q.1] else []):=by
 rw [List.take_add_one,e,List.filter_append,List.map_append]
 congr 1
 by_cases c:q.1∈D.map (·.1)
 ·have:inD D q=true:=decide_eq_true c
  rw [if_pos c]
  simp [this]
 ·have:inD D q=false:=decide_eq_false c
  rw [if_neg c]
  simp [this]
inductive Sp_Llines (K:PySem.W.Frag) (vs:List V) (H:Hp) (Q:VK) (E_:XK):Prop
 | mk (d:Addr) (a:Addr) (dn:Addr) (ns:List Int) (turn:Int) (A:Done) (D:Done) (S:List Str) (h0_:vs=[.ref d,.ref a,.ref dn,.int turn]) (h1_:H d=some (.dT (doneK A))) (h2_:A.length≤40) (h3_:(A.map (·.1)).Nodup) (h4_:(∀ q∈A,IsDeed K H q.2∧pt q.2.d=true)) (h5_:(∀ q∈A,0≤q.1.1∧q.1.1≤6∧0≤q.1.2∧q.1.2≤40)) (h6_:(∀ q∈A,∀ z∈spot q.2.d,z∈S)) (h7_:S.length≤4) (h8_:H dn=some (.dT (doneT D))) (h9_:SqL K H a (ns.map V.int)) (h10_:0≤turn) (h11_:turn≤1) (h12_:∀ (lm:Addr) (ls:List LN) (us:List Str) (H':Hp),Same H H'→H' lm=some (.lst (ls.map fun x=>V.ref x.a))→(∀ y∈ls,LOk H' lm A D y)→ls.map (·.pl)=us→RisingT us→us.Nodup→(∀ z,z∈us ↔ ∃ q∈A,q.2.d.place=.str z)→ls.length≤4→Q (.ref lm) H'):Sp_Llines K vs H Q E_
noncomputable def sp_Llines (K:PySem.W.Frag):Sp:=Sp_Llines K
inductive LX1 (H:Hp) (lu:Addr) (us:List Str) (lm:Addr) (A:Done) (D:Done) (d:Addr) (a:Addr) (dn:Addr) (turn:Int) (i:Nat) (σ:St) (H':Hp):Prop
 | mk (ls:List LN) (v5:Option V) (v6:Option V) (v7:Option V) (v8:Option V) (h0_:Same H H') (h1_:H' lu=some (.lst (us.map V.str))) (h2_:H' lm=some (.lst (ls.map fun x=>V.ref x.a))) (h3_:ls.map (·.pl)=us.take i) (h4_:(∀ y∈ls,LOk H' lm A D y)) (h5_:σ=[some (.ref d),some (.ref a),some (.ref dn),some (.int turn),some (.ref lm),v5,v6,v7,v8]):LX1 H lu us lm A D d a dn turn i σ H'
inductive LX2 (rw':Addr) (HW:Hp) (B:Done) (D:Done) (d:Addr) (a:Addr) (dn:Addr) (turn:Int) (lm:Addr) (pl:Str) (k:Nat) (σ:St) (H6:Hp):Prop
 | mk (qs:List TK) (zs:List Z2) (v7:Option V) (v8:Option V) (h0_:SameEx [rw'] HW H6) (h1_:H6 rw'=some (.lst (qs.map fun q=>V.ref q.1))) (h2_:PtsAt H6 qs zs) (h3_:zs.Perm (((B.take k).filter (inD D)).map (·.1))) (h4_:σ=[some (.ref d),some (.ref a),some (.ref dn),some (.int turn),some (.ref lm),some (.str pl),some (.ref rw'),v7,v8]):LX2 rw' HW B D d a dn turn lm pl k σ H6
section
variable {P:Program} {w:World} {K:PySem.W.Frag} {mg:Str→Option Value} {base:Heap}
theorem sc_Llines:FnScope ["_law_deeds_here","_law_script","_law_done","_law_turn","_law_found","_law_place_here","_law_row","_law_one","_law_m"] ["_law_deeds_here","_law_script","_law_done","_law_turn"] (defScope s_Llines):=⟨rfl,rfl,rfl,by decide +kernel,rfl,by decide +kernel,by decide +kernel⟩
theorem ok_Llines {f:Addr} {fd:FuncData} (F:Fun K "_law_lines" "_law_lines" s_Llines f fd) (T:Txt K mg) (h_Lwrites:Has P w K mg base 2 "_law_writes" ["_law_deeds_here","_law_place_here"] (sp_Lwrites K)) (h_Lplace:Has P w K mg base 1 "_law_place" ["_law_deed_here"] (sp_Lplace K)) (h_Lthird:Has P w K mg base 1 "_law_third" ["_law_cell","_law_k"] (sp_Lthird K)) (h_Lcellat:Has P w K mg base 1 "_law_cell_at" ["_law_script","_law_k"] (sp_Lcellat K)):FnOk P w K mg base CX0 3 f fd ["_law_deeds_here","_law_script","_law_done","_law_turn"] (sp_Llines K):=by
 refine F.ok (k:=2) sc_Llines (fun vs H Q E h=>?_) (fun cdv A outer s H vs Q E hr h=>?_)
 ·obtain ⟨d,a,dn,ns,turn,A,D,S,rfl,_⟩:=h
  rfl
 ·obtain ⟨d,a,dn,ns,turn,A,D,S,rfl,hd,a40,ndA,hA,hAs,hSp,hS4,hdn,hS,t0,t1,q⟩:=h
  have hu:=hu_of hr
  refine ⟨_,(pss_cons (ps_set (i:=4) sc_Llines.nd rfl (Or.inl rfl) (pe_lst pa_nil))
   (pss_cons (ps_for PassesOwn.never rfl (pi_list (pe_callB (call_sorted_set rfl) rfl T.n_sorted bt_sorted (pa_cons (pe_callTy (call_set_of rfl) rfl T.n_set bt_set (pa_cons (pe_comp (Nc:=["_law_spot","_law_deeds_here"]) (nt:=1) (js:=[0]) rfl ⟨rfl,rfl,rfl,rfl,(.cons rfl .nil),rfl,⟨["_law_spot"],["_law_deeds_here"],rfl,rfl,(.cons rfl rfl rfl .nil)⟩⟩ (pi_list (pe_callTy (call_list_keysT rfl) rfl T.n_list bt_list (pa_cons (pv 0) pa_nil))) (fun C s3 H3 fp pins=>⟨(pg_name (i:=0) (show (["_law_spot","_law_deeds_here"]:List Str).Nodup by decide +kernel) rfl (Or.inl rfl)),pts_nil,(pe_fn h_Lplace (hr.mono (by decide)) (pa_cons (pe_dget hu (pv 1) (pv 0) (fun _ _=>rfl)) pa_nil))⟩)) pa_nil)) pa_nil))) (pg_name (i:=5) sc_Llines.nd rfl (Or.inl rfl))
   (pss_cons (ps_set (i:=6) sc_Llines.nd rfl (Or.inl rfl) (pe_lst pa_nil))
   (pss_cons (ps_for PassesOwn.never rfl (pi_list (pe_fn h_Lwrites (hr.mono (by decide)) (pa_cons (pv 0) (pa_cons (pv 5) pa_nil)))) (pg_name (i:=7) sc_Llines.nd rfl (Or.inl rfl))
   (pss_one (ps_if (pt_cmp (pc_din hu (pv 7) (pv 2)))
   (pss_cons (ps_set (i:=8) sc_Llines.nd rfl (Or.inl rfl) (pe_fn h_Lthird (hr.mono (by decide)) (pa_cons (pe_fn h_Lcellat (hr.mono (by decide)) (pa_cons (pv 1) (pa_cons (pe_op op_add pe_int (pe_ix ix_tup (pv 7) pe_int (fun _ _=>rfl))) pa_nil))) (pa_cons (pe_op op_add (pe_op op_add (pe_op op_mulB pe_int (pe_ix ix_tup (pv 7) pe_int (fun _ _=>rfl))) (pe_ix ix_tup (pv 7) pe_int (fun _ _=>rfl))) (pv 3)) pa_nil))))
   (pss_one (ps_expr (pe_bm PySem.F.plainAttrs_list PySem.F.slot_list_insert PySem.F.type_list_insert mt_insert (pv 6) (pa_cons (pe_op op_mod (pv 8) (pe_op op_add (pe_callB call_len_seq rfl T.n_len bt_len (pa_cons (pv 6) pa_nil)) pe_int)) (pa_cons (pv 7) pa_nil))))))
   pss_nil)))
   (pss_one (ps_expr (pe_bm PySem.F.plainAttrs_list PySem.F.slot_list_append PySem.F.type_list_append mt_append (pv 4) (pa_cons (pe_tup (pa_cons (pv 5) (pa_cons (pv 6) pa_nil))) pa_nil)))))))
   (pss_one (ps_ret (pv 4))))),?_⟩
  try dsimp only [nox_K]
  refine ⟨by decide,fun lm hlm=>?_⟩
  have s1:Same H (upd H lm (.lst [])):=Same.new hlm
  have hlm1:=upd_same (H:=H) (a:=lm) (o:=.lst [])
  generalize upd H lm (.lst [])=H1 at s1 hlm1 ⊢
  refine ⟨_,rfl,d,_,rfl,.inl (s1 _ _ hd),fun kl as nkl ka=>?_⟩
  obtain ⟨ps,ea,hps⟩:=keyTups_pts ka
  have s2:Same H1 (upd H1 kl (.lst (as.map V.ref))):=Same.new nkl
  have hkl:(upd H1 kl (.lst (as.map V.ref))) kl=some (.lst (ps.map fun q=>V.ref q.1)):=by rw [upd_same,← ea,List.map_map]; rfl
  have hps2:=hps.same s2
  generalize upd H1 kl (.lst (as.map V.ref))=H2 at s2 hkl hps2 ⊢
  have psl:ps.length=A.length:=by rw [hps2.len,List.length_map]
  have s02:=s1.trans s2
  refine ⟨kl,rfl,⟨_,SqL.of hkl⟩,fun E hE=>?_⟩
  refine comp_list (xs:=ps.map fun q=>V.ref q.1) (fun i σ ys H'=>∃ v:Option V,Same H2 H'∧H' E=some (.lst ys)∧ys=((A.take i).flatMap fun q=>spot q.2.d).map V.str∧ys.length=i∧σ=[v,some (.ref d)]) ?_ ?_ ?_ ?_ ?_
  ·exact ⟨none,Same.new hE,upd_same,rfl,rfl,rfl⟩
  ·rintro i σ ys H' hi ⟨v,s,hE',rfl,hl,rfl⟩
   exact ⟨s.seq (SqL.of hkl),hE',by lia⟩
  ·rw [List.length_map]; exact Nat.le_of_lt (small1000 (by lia))
  ·rintro i y σ ys H' hy ⟨v,s,hE',rfl,hl,rfl⟩
   obtain ⟨o,ho,rfl⟩:=refs_get hy
   have hi:i < A.length:=by rw [← psl]; exact (List.getElem?_eq_some_iff.mp ho).1
   obtain ⟨x,eq⟩:∃ x,A[i]?=some x:=⟨_,List.getElem?_eq_getElem hi⟩
   have hm:=List.mem_of_getElem? eq
   obtain ⟨z,hz1,hz2,hz3⟩:=hps2.get ho
   have ez:z=x.1:=by rw [List.getElem?_map,eq] at hz1; exact (Option.some.inj hz1).symm
   subst ez
   have g:DGet H' d (.ref o.1) (some (.ref x.2.a)):=by
    rw [← val_done ndA hm]
    exact DGet.t (k:=pk x.1) ((s02.trans s) _ _ hd) (s _ _ hz3)
   obtain ⟨pl,sp1,sp2⟩:=place_spot (hA x hm).2
   refine ⟨_,rfl,_,rfl,d,_,rfl,g,x.2.a,x.2.d,rfl,((hA x hm).1.same (s02.trans s)).t,(hA x hm).2,?_⟩
   rw [sp2]
   refine ⟨hE',_,Same.at hE s,upd_same,?_,by rw [List.length_append,hl]; rfl,rfl⟩
   rw [List.take_add_one,eq,List.flatMap_append,List.map_append]
   congr 1
   show [V.str pl]=([x].flatMap fun q=>spot q.2.d).map V.str
   rw [List.flatMap_cons,List.flatMap_nil,List.append_nil,sp1]
   rfl
  rintro σ ys H3 ⟨v,s3,hE3,rfl,hl3,rfl⟩
  rw [List.length_map] at hl3
  rw [List.length_map,psl,List.take_of_length_le (Nat.le_refl _)] at hE3
  have hl3:(A.flatMap fun q=>spot q.2.d).length≤40:=by
   rw [List.length_map,psl,List.take_of_length_le (Nat.le_refl _)] at hl3
   lia
  have s03:=s02.trans s3
  refine ⟨E,A.flatMap (fun q=>spot q.2.d),rfl,SqL.of hE3,by lia,fun l us0 hl nd hm hle=>⟨l,us0,rfl,upd_same,?_,nd,fun lu us hlu hp hrise=>?_⟩⟩
  ·have:=nodup_le nd (S:=S) fun z hz=>by
    obtain ⟨r,a1,a2⟩:=List.mem_flatMap.mp ((hm z).mp hz)
    exact hSp r a1 z a2
   lia
  have us4:us.length≤4:=by
   rw [hp.length_eq]
   have:=nodup_le nd (S:=S) fun z hz=>by
    obtain ⟨r,a1,a2⟩:=List.mem_flatMap.mp ((hm z).mp hz)
    exact hSp r a1 z a2
   lia
  have ndu:us.Nodup:=hp.nodup_iff.mpr nd
  have hmu:∀ z,z∈us ↔ ∃ q∈A,q.2.d.place=.str z:=fun z=>by
   rw [hp.mem_iff,hm z,List.mem_flatMap]
   constructor
   ·rintro ⟨r,a1,a2⟩; exact ⟨r,a1,spot_place.mp a2⟩
   ·rintro ⟨r,a1,a2⟩; exact ⟨r,a1,spot_place.mpr a2⟩
  have sU:=(Same.new hl).then (o:=.lst (us.map V.str)) hlu
  have hlm3:=s3 _ _ (s2 _ _ hlm1)
  have hlmU:=sU _ _ hlm3
  have nlu:lu≠lm:=fun z=>by
   subst z
   exact absurd (hlu.symm.trans ((Same.new hl) _ _ hlm3)) (by intro e; cases e)
  have s0U:=s03.trans sU
  refine ⟨lu,rfl,⟨_,SqL.of upd_same⟩,for_list (xs:=us.map V.str) (LX1 H lu us lm A D d a dn turn) ?_ ?_ ?_ ?_⟩
  ·exact ⟨[],none,none,none,none,s0U,upd_same,hlmU,rfl,(fun y hy=>nomatch hy),rfl⟩
  ·rintro i σ H' _ ⟨ls,v5,v6,v7,v8,s,hlu',_⟩
   exact SqL.of hlu'
  ·rintro i y σ H' hy ⟨ls,v5,v6,v7,v8,s,hlu',hlm',hlp,hLO,rfl⟩
   obtain ⟨pl,hpl,rfl⟩:=refs_get hy
   have hiu:i < us.length:=(List.getElem?_eq_some_iff.mp hpl).1
   refine ⟨by decide,fun rw' hrw=>?_⟩
   have sr:Same H' (upd H' rw' (.lst [])):=Same.new hrw
   have hrw1:=upd_same (H:=H') (a:=rw') (o:=.lst [])
   have nrl:rw'≠lm:=Ne.symm (ne_of_none hlm' hrw)
   have ll:ls.length≤4:=by
    have:=congrArg List.length hlp
    rw [List.length_map,List.length_take] at this
    lia
   generalize upd H' rw' (.lst [])=HR at sr hrw1 ⊢
   have s0R:=s.trans sr
   refine ⟨_,rfl,_,rfl,d,A,pl,rfl,s0R _ _ hd,by lia,ndA,fun r hr=>⟨(hA r hr).1.same s0R,(hA r hr).2⟩,fun wl wps HW sW nwl hwl hwp=>?_⟩
   have wlrw:wl≠rw':=fun e=>by rw [e,hrw1] at nwl; cases nwl
   have hwp:PtsAt HW wps ((A.filter (isTo pl)).map (·.1)):=hwp
   have bl:(A.filter (isTo pl)).length≤40:=Nat.le_trans (List.length_filter_le _ _) a40
   have hBA:∀ r∈A.filter (isTo pl),r∈A:=fun r hr=>(List.mem_filter.mp hr).1
   generalize hBe:A.filter (isTo pl)=B at hwp bl hBA
   have wbl:wps.length=B.length:=by rw [hwp.len,List.length_map]
   refine ⟨wl,rfl,⟨_,SqL.of hwl⟩,for_list (xs:=wps.map fun q=>V.ref q.1) (LX2 rw' HW B D d a dn turn lm pl) ?_ ?_ ?_ ?_⟩
   ·exact ⟨[],[],_,_,fun b u _ e=>e,sW _ _ hrw1,PtsAt.nil,List.Perm.refl _,rfl⟩
   ·rintro k σ H6 _ ⟨qs,zs,v7',v8',ex,_⟩
    exact ex.seq (fun c=>wlrw (List.mem_singleton.mp c)) (SqL.of hwl)
   ·rintro k y σ H6 hy ⟨qs,zs,v7',v8',ex,hrw6,hpt,hpm,rfl⟩
    obtain ⟨t,ht,rfl⟩:=refs_get hy
    have hk:k < B.length:=by rw [← wbl]; exact (List.getElem?_eq_some_iff.mp ht).1
    obtain ⟨e,eb⟩:∃ e,B[k]?=some e:=⟨_,List.getElem?_eq_getElem hk⟩
    have heA:=hBA e (List.mem_of_getElem? eb)
    obtain ⟨z,hz1,hz2,hz3⟩:=hwp.get ht
    have ez:z=e.1:=by rw [List.getElem?_map,eb] at hz1; exact (Option.some.inj hz1).symm
    subst ez
    have nr:∀ {b:Addr} {u:HO},HW b=some u→(∀ xs,u≠.lst xs)→b ∉ [rw']:=fun {b u} h hu c=>by
     rw [List.mem_singleton.mp c,sW _ _ hrw1] at h
     exact hu _ (Option.some.inj h).symm
    have htT:=ex _ _ (nr hz3 (fun _ e=>nomatch e)) hz3
    have s0W:=s0R.trans sW
    have dn6:=ex _ _ (nr (s0W _ _ hdn) (fun _ e=>nomatch e)) (s0W _ _ hdn)
    have tm:=in_snoc (D:=D) eb
    obtain ⟨z1,z2,z3,z4⟩:=hAs e heA
    have qsl:qs.length≤40:=by
     have x1:=hpt.len
     have x2:=hpm.length_eq
     rw [List.length_map] at x2
     have x3:=List.length_filter_le (inD D) (B.take k)
     rw [List.length_take] at x3
     lia
    refine ⟨_,rfl,_,rfl,dn,_,rfl,DGet.t (k:=pk e.1) dn6 htT,_,rfl,?_⟩
    rw [val_doneT]
    by_cases c:e.1∈D.map (·.1)
    ·rw [if_pos c] at tm ⊢
     refine iteT ?_
     have hS6:SqL K H6 a (ns.map V.int):=by
      have h0:rw'≠a∨True:=.inr trivial
      rcases hS with (h | ⟨o,h⟩) | h
      ·exact .inl (.inl (ex _ _ (fun c=>by have:=s _ _ h; rw [List.mem_singleton.mp c,hrw] at this; cases this) (s0W _ _ h)))
      ·exact .inl (.inr ⟨o,ex _ _ (fun c=>by have:=s _ _ h; rw [List.mem_singleton.mp c,hrw] at this; cases this) (s0W _ _ h)⟩)
      ·exact .inr h
     refine ⟨_,rfl,_,rfl,t.1,_,_,_,rfl,rfl,SqT.of htT,atI_nat (j:=1) rfl,_,_,rfl,rfl,a,ns,_,rfl,hS6,by lia,?_⟩
     refine ⟨_,rfl,t.1,_,_,_,rfl,rfl,SqT.of htT,atI_nat (j:=0) rfl,_,_,rfl,rfl,.inl (.inl ⟨by lia,by lia⟩),_,rfl,t.1,_,_,_,rfl,rfl,SqT.of htT,atI_nat (j:=1) rfl,_,_,rfl,rfl,_,rfl,_,_,rfl,rfl,_,_,rfl,by lia,by lia,fun m hm=>?_⟩
     have hL0:(0:Int) < ((qs.map fun q=>V.ref q.1).length:Int) + 1:=by lia
     obtain ⟨n,hn⟩:=Int.eq_ofNat_of_zero_le (Int.emod_nonneg m (show ((qs.map fun q=>V.ref q.1).length:Int) + 1≠0 by lia))
     have hn2:=Int.emod_lt_of_pos m hL0
     rw [hn] at hn2
     refine ⟨_,rfl,.inl ⟨rfl,_,SqL.of hrw6⟩,_,rfl,_,rfl,rw',_,rfl,.inl (SqL.of hrw6),_,_,rfl,rfl,_,_,rfl,rfl,hL0,_,rfl,rw',_,_,n,rfl,congrArg (fun z=>[V.int z,V.ref t.1]) hn,hrw6,(by rw [List.length_map]; exact small1000 (by lia)),(by lia),?_⟩
     have el:(qs.map fun q=>V.ref q.1).take n ++ V.ref t.1 :: (qs.map fun q=>V.ref q.1).drop n=(qs.take n ++ (t.1,pk e.1) :: qs.drop n).map fun q:TK=>V.ref q.1:=by
      rw [List.map_append,List.map_cons,List.map_take,List.map_drop]
     rw [el]
     have hp2:=hpt.ins n (t:=t.1) (z:=e.1) htT
     refine ⟨_,zs.take n ++ e.1 :: zs.drop n,_,_,ex.put (List.mem_singleton.mpr rfl),upd_same,hp2.lset hrw6,?_,rfl⟩
     rw [tm]
     exact (ins_perm zs n e.1).trans (hpm.append_right _)
    ·rw [if_neg c] at tm ⊢
     refine iteF ⟨qs,zs,_,_,ex,hrw6,hpt,?_,rfl⟩
     rw [tm,List.append_nil]
     exact hpm
   ·rintro σ H6 ⟨qs,zs,v7',v8',ex,hrw6,hpt,hpm,rfl⟩
    rw [List.length_map,wbl,List.take_of_length_le (Nat.le_refl _)] at hpm
    have s6:Same H' H6:=fun b u e=>ex b u (fun c=>by rw [List.mem_singleton.mp c,hrw] at e; cases e) ((sr.trans sW) b u e)
    have hlm6:=s6 _ _ hlm'
    refine ⟨_,rfl,.inl ⟨rfl,_,SqL.of hlm6⟩,_,rfl,_,rfl,(by show 2≤sizeLine; decide),fun t ht=>?_⟩
    have s7:Same H6 (upd H6 t (.tup [.str pl,.ref rw'])):=Same.new ht
    have hlm7:=s7 _ _ hlm6
    have L7:LOk (upd H6 t (.tup [.str pl,.ref rw'])) lm A D ⟨t,rw',pl,qs,zs⟩:=⟨upd_same,s7 _ _ hrw6,hpt.same s7,by rw [hBe]; exact hpm,nrl⟩
    refine ⟨lm,_,_,rfl,rfl,hlm7,(by rw [List.length_map]; exact small1000 (by lia)),ls ++ [⟨t,rw',pl,qs,zs⟩],_,_,_,_,Same.at hlm (s.trans (s6.trans s7)),by rw [upd_ne nlu]; exact s7 _ _ (s6 _ _ hlu'),by rw [upd_same,List.map_append]; rfl,?_,fun y hy=>?_,rfl⟩
    ·rw [List.map_append,hlp,List.take_add_one,hpl]; rfl
    ·rcases List.mem_append.mp hy with hy | hy
     ·exact (((hLO y hy).same s6).same s7).lset hlm7
     ·rw [List.mem_singleton.mp hy]; exact L7.lset hlm7
  ·rintro σ H' ⟨ls,v5,v6,v7,v8,s,hlu',hlm',hlp,hLO,rfl⟩
   rw [List.length_map,List.take_of_length_le (Nat.le_refl _)] at hlp
   refine ⟨_,rfl,q lm ls us H' s hlm' hLO hlp hrise ndu hmu ?_⟩
   have:=congrArg List.length hlp
   rw [List.length_map] at this
   lia
end
end Own
--#dictT
set_option Elab.async false
set_option linter.all false
set_option maxRecDepth 100000
set_option maxHeartbeats 4100000
namespace Own
open PySem L2
theorem allT (n:Nat):(List.range n).all (fun _=>true)=true:=by simp
section
variable {K:PySem.W.Frag} {H:Hp} {n:Nat} {a b:Addr} {xs ys:List V}
theorem DC.lstT (ha:SqL K H a xs) (hb:SqL K H b ys) (hl:xs.length=ys.length) (h:∀ (i:Nat) x y,xs[i]?=some x→ys[i]?=some y→DC K H n x y true):DC K H (n + 1) (.ref a) (.ref b) true:=by
 have:=DC.lst (fun _=>true) ha hb hl h
 rw [allT] at this
 exact this
theorem DC.tupT (ha:SqT K H a xs) (hb:SqT K H b ys) (hl:xs.length=ys.length) (h:∀ (i:Nat) x y,xs[i]?=some x→ys[i]?=some y→DC K H n x y true):DC K H (n + 1) (.ref a) (.ref b) true:=by
 have:=DC.tup (fun _=>true) ha hb h
 rw [allT,hl,beq_self_eq_true] at this
 exact this
theorem DT.lstT (ha:SqL K H a xs) (hb:SqL K H b ys) (hl:xs.length=ys.length) (h:∀ (i:Nat) x y,xs[i]?=some x→ys[i]?=some y→DC K H 8 x y true):DT K H a b true:=by
 have:=DT.lst (fun _=>true) ha hb hl h
 rw [allT] at this
 exact this
theorem DT.tupT (ha:SqT K H a xs) (hb:SqT K H b ys) (hl:xs.length=ys.length) (h:∀ (i:Nat) x y,xs[i]?=some x→ys[i]?=some y→DC K H 8 x y true):DT K H a b true:=by
 have:=DT.tup (fun _=>true) ha hb h
 rw [allT,hl,beq_self_eq_true] at this
 exact this
theorem DC.refs {rs:List V} (hr:∀ v∈rs,∃ q,v=.ref q) (ha:SqL K H a rs) (hb:SqL K H b rs):DC K H (n + 1) (.ref a) (.ref b) true:=by
 refine DC.lstT ha hb rfl fun i x y hx hy=>?_
 rw [hx] at hy
 cases hy
 obtain ⟨q,rfl⟩:=hr x (List.mem_of_getElem? hx)
 exact DC.same
end
theorem refs_are {α:Type} (f:α→Addr) (l:List α):∀ v∈l.map (fun x=>V.ref (f x)),∃ q,v=.ref q:=fun v hv=>by
 obtain ⟨x,_,rfl⟩:=List.mem_map.mp hv
 exact ⟨_,rfl⟩
section
variable {hs hs':Hands}
theorem handAt_eq (e:hs.map (·.2)=hs'.map (·.2)) (i:Nat):handAt hs i=handAt hs' i:=by
 unfold handAt
 rw [← List.getElem?_map,← List.getElem?_map,e]
theorem progW_eq (e:hs.map (·.2)=hs'.map (·.2)) (num:Z2→Int):∀ i,progW num hs i=progW num hs' i
 | 0=>rfl
 | i + 1=>by
  show (let s:=handW num i (handAt hs i) (handAt hs i).length ⟨(progW num hs i).done,(progW num hs i).stops,[]⟩; PW3.mk s.done s.stops ((progW num hs i).filled ++ [s.has]))=_
  rw [handAt_eq e i,progW_eq e num i]
  rfl
theorem spotsTo_eq (e:hs.map (·.2)=hs'.map (·.2)):∀ i,spotsTo hs i=spotsTo hs' i
 | 0=>rfl
 | i + 1=>by
  show spotsTo hs i ++ _=spotsTo hs' i ++ _
  rw [spotsTo_eq e i,handAt_eq e i]
theorem len_eq (e:hs.map (·.2)=hs'.map (·.2)):hs.length=hs'.length:=by have:=congrArg List.length e; simpa using this
theorem ddAt_eq (e:hs.map (·.2)=hs'.map (·.2)):ddAt hs=ddAt hs':=by
 funext z
 unfold ddAt
 rw [handAt_eq e,len_eq e]
theorem walk_eq (e:hs.map (·.2)=hs'.map (·.2)) (fs:List FR):walkOf hs fs=walkOf hs' fs:=by
 have e2:numAt hs=numAt hs':=by
  funext o
  cases o with
  | none=>rfl
  | some z=>show (match ddAt hs z with | some x=>numOf x.d | none=>0)=(match ddAt hs' z with | some x=>numOf x.d | none=>0); rw [ddAt_eq e]
 have e3:numBy hs=numBy hs':=by funext s z; unfold numBy; rw [e2]
 unfold walkOf; rw [progW_eq e,e3,len_eq e]
theorem Fits.hands {fs:List FR} {ls:List LN} (e:hs.map (·.2)=hs'.map (·.2)) (h:Fits hs fs ls):Fits hs' fs ls:=by
 have e1:writeAt hs=writeAt hs':=by funext z; unfold writeAt; rw [ddAt_eq e]
 have e2:numAt hs=numAt hs':=by
  funext o
  cases o with
  | none=>rfl
  | some z=>show (match ddAt hs z with | some x=>numOf x.d | none=>0)=(match ddAt hs' z with | some x=>numOf x.d | none=>0); rw [ddAt_eq e]
 have e3:numBy hs=numBy hs':=by funext s z; unfold numBy; rw [e2]
 have e4:walkOf hs fs=walkOf hs' fs:=by unfold walkOf; rw [progW_eq e,e3,len_eq e]
 obtain ⟨h1,h2,h3,h4,h5⟩:=h
 refine ⟨?_,by rw [← e4]; exact h2,by rw [← e4]; exact h3,?_,by rw [← e4]; exact h5⟩
 ·unfold Told at h1 ⊢
  rw [← e3,← len_eq e,← progW_eq e,← e1]
  exact h1
 ·rw [← len_eq e,← spotsTo_eq e]; exact h4
end
theorem Fits.lines {hs:Hands} {fs:List FR} {ls ls':List LN} (h:Fits hs fs ls) (e:ls'.map (·.pl)=ls.map (·.pl)) (ez:∀ y'∈ls',∃ y∈ls,y'.pl=y.pl∧y'.zs=y.zs):Fits hs fs ls' :=
 ⟨h.told,h.rd,h.so,fun us a b=>e.trans (h.pl us a b),fun x hx=>by
  obtain ⟨y,hy,e1,e2⟩:=ez x hx
  rw [e1,e2]
  exact h.li y hy⟩
theorem dc_mono {K:PySem.W.Frag} {H H':Hp} (s:Same H H') {n:Nat} {x y:V} {k:Bool} (h:DC K H n x y k):DC K H' n x y k:=by
 induction h with
 | flat a b=>exact .flat a b
 | same=>exact .same
 | lst e ha hb hl _ ih=>exact .lst e (s.seq ha) (s.seq hb) hl ih
 | len ha hb hl=>exact .len (s.seq ha) (s.seq hb) hl
 | tup e ha hb _ ih=>exact .tup e (s.seqT ha) (s.seqT hb) ih
theorem dt_mono {K:PySem.W.Frag} {H H':Hp} (s:Same H H') {a b:Addr} {k:Bool} (h:DT K H a b k):DT K H' a b k:=by
 cases h with
 | lst e ha hb hl hi=>exact .lst e (s.seq ha) (s.seq hb) hl fun i x y a b=>dc_mono s (hi i x y a b)
 | len ha hb hl=>exact .len (s.seq ha) (s.seq hb) hl
 | tup e ha hb hi=>exact .tup e (s.seqT ha) (s.seqT hb) fun i x y a b=>dc_mono s (hi i x y a b)
structure Copies (H:Hp) (ls ls':List LN):Prop where
 len:ls'.length=ls.length
 at_:∀ (i:Nat) (y' y:LN),ls'[i]?=some y'→ls[i]?=some y→H y'.a=some (.tup [.str y.pl,.ref y'.l])∧H y'.l=some (.lst (y.ps.map fun q=>V.ref q.1))∧y'.pl=y.pl∧y'.ps=y.ps∧y'.zs=y.zs
theorem Copies.mem {H:Hp} {ls ls':List LN} (h:Copies H ls ls'):∀ y'∈ls',∃ y∈ls,H y'.a=some (.tup [.str y.pl,.ref y'.l])∧H y'.l=some (.lst (y.ps.map fun q=>V.ref q.1))∧y'.pl=y.pl∧y'.ps=y.ps∧y'.zs=y.zs:=fun y' hy'=>by
 obtain ⟨i,e1⟩:=List.getElem?_of_mem hy'
 have hi:i < ls.length:=by rw [← h.len]; exact (List.getElem?_eq_some_iff.mp e1).1
 exact ⟨ls[i],List.getElem_mem hi,h.at_ i y' ls[i] e1 (List.getElem?_eq_getElem hi)⟩
theorem Copies.same {H H':Hp} {ls ls':List LN} (s:Same H H') (h:Copies H ls ls'):Copies H' ls ls':=⟨h.len,fun i y' y e1 e2=>by obtain ⟨b1,b2,b3⟩:=h.at_ i y' y e1 e2; exact ⟨s _ _ b1,s _ _ b2,b3⟩⟩
theorem Copies.lines {K:PySem.W.Frag} {H:Hp} {lm D2:Addr} {ls ls':List LN} (h:Copies H ls ls') (hL:IsLines K H lm ls) (hD:H D2=some (.lst (ls'.map fun y=>V.ref y.a))):IsLines K H D2 ls'∧ls'.map (·.pl)=ls.map (·.pl)∧(∀ y'∈ls',∃ y∈ls,y'.pl=y.pl∧y'.zs=y.zs)∧DC K H 8 (.ref D2) (.ref lm) true:=by
 refine ⟨⟨SqL.of hD,fun y' hy'=>?_,fun y' hy'=>?_⟩,?_,fun y' hy'=>?_,?_⟩
 ·obtain ⟨y,hy,b1,b2,b3,b4,b5⟩:=h.mem y' hy'
  rw [b3]; exact SqT.of b1
 ·obtain ⟨y,hy,b1,b2,b3,b4,b5⟩:=h.mem y' hy'
  obtain ⟨c1,c2,c3⟩:=hL.q y hy
  rw [b4,b5]
  exact ⟨⟨SqL.of b2,c1.ts⟩,c2,c3⟩
 ·refine List.ext_getElem? fun i=>?_
  rw [List.getElem?_map,List.getElem?_map]
  cases e1:ls'[i]? with
  | none =>
   have hl:=h.len
   have:ls[i]?=none:=by rw [List.getElem?_eq_none_iff] at e1 ⊢; lia
   rw [this]
  | some y' =>
   have hi:i < ls.length:=by rw [← h.len]; exact (List.getElem?_eq_some_iff.mp e1).1
   rw [List.getElem?_eq_getElem hi]
   exact congrArg some (h.at_ i y' ls[i] e1 (List.getElem?_eq_getElem hi)).2.2.1
 ·obtain ⟨y,hy,b1,b2,b3,b4,b5⟩:=h.mem y' hy'
  exact ⟨y,hy,b3,b5⟩
 ·refine DC.lstT (SqL.of hD) hL.l (by rw [List.length_map,List.length_map,h.len]) fun i x y hx hy=>?_
  obtain ⟨y',e1,rfl⟩:=refs_get hx
  obtain ⟨y1,e2,rfl⟩:=refs_get hy
  obtain ⟨b1,b2,b3,b4,b5⟩:=h.at_ i y' y1 e1 e2
  refine DC.tupT (SqT.of b1) (hL.p y1 (List.mem_of_getElem? e2)) rfl fun k u v hu hv=>?_
  match k,hu,hv with
  | 0,hu,hv =>
   simp at hu hv
   subst hu hv
   have:=DC.flat (K:=K) (H:=H) (n:=6) (x:=V.str y1.pl) (y:=V.str y1.pl) rfl rfl
   rw [show eqV (V.str y1.pl) (V.str y1.pl)=true from beq_self_eq_true y1.pl] at this
   exact this
  | 1,hu,hv =>
   simp at hu hv
   subst hu hv
   exact DC.refs (refs_are (·.1) y1.ps) (SqL.of b2) (hL.q y1 (List.mem_of_getElem? e2)).1.l
  | k + 2,hu,hv=>simp at hu
inductive OI1 (H4:Hp) (M:Addr) (hs:Hands) (j:Nat) (σ:St) (ys:List V) (H5:Hp):Prop
 | mk (hs':Hands) (v:Option V) (h0_:Same H4 H5) (h1_:H5 M=some (.lst ys)) (h2_:ys=(hs'.map fun h=>V.ref h.1)) (h3_:hs'.map (·.2)=(hs.take j).map (·.2)) (h4_:(∀ h∈hs',H5 h.1=some (.lst (h.2.map fun x=>V.ref x.a))∧h.1≠M)) (h5_:σ=[v]):OI1 H4 M hs j σ ys H5
inductive OI3 (H8:Hp) (D2:Addr) (ls:List LN) (j:Nat) (σ:St) (ys:List V) (H9:Hp):Prop
 | mk (ls':List LN) (v1:Option V) (v2:Option V) (h0_:Same H8 H9) (h1_:H9 D2=some (.lst ys)) (h2_:ys=(ls'.map fun y=>V.ref y.a)) (h3_:Copies H9 (ls.take j) ls') (h4_:D2 ∉ ls'.map (·.l)) (h5_:σ=[v1,v2]):OI3 H8 D2 ls j σ ys H9
inductive Sp_Lpairs (K:PySem.W.Frag) (vs:List V) (H:Hp) (Q:VK) (E_:XK):Prop
 | mk (r:Addr) (l:Addr) (ts:List Addr) (us:List Addr) (cs:List CN) (h0_:vs=[.ref r,.ref l]) (h1_:SqT K H r (ts.map V.ref)) (h2_:SqL K H l (us.map V.ref)) (h3_:PrAt H ts cs) (h4_:PrAt H us cs) (h5_:∀ H',Same H H'→Q (.bl true) H'):Sp_Lpairs K vs H Q E_
noncomputable def sp_Lpairs (K:PySem.W.Frag):Sp:=Sp_Lpairs K
noncomputable def ck (c:CN):List Key:=[Sum.inr c.1,Sum.inl c.2]
section
variable {P:Program} {w:World} {K:PySem.W.Frag} {mg:Str→Option Value} {base:Heap}
theorem sc_Lpairs:FnScope ["_law_found","_law_due","_law_one","_law_other_here"] ["_law_found","_law_due"] (defScope s_Lpairs):=⟨rfl,rfl,rfl,by decide +kernel,rfl,by decide +kernel,by decide +kernel⟩
theorem ok_Lpairs {f:Addr} {fd:FuncData} (F:Fun K "_law_pairs" "_law_pairs" s_Lpairs f fd) (T:Txt K mg) :FnOk P w K mg base CX0 1 f fd ["_law_found","_law_due"] (sp_Lpairs K):=by
 refine F.ok (k:=0) sc_Lpairs (fun vs H Q E h=>?_) (fun cdv A outer s H vs Q E hr h=>?_)
 ·obtain ⟨r,l,ts,us,cs,rfl,_⟩:=h
  rfl
 ·obtain ⟨r,l,ts,us,cs,rfl,ha,hb,hp,hq,q⟩:=h
  refine ⟨_,(pss_cons (ps_if (PW.pt (pw_or (pt_not (pt_val (pe_callB call_isTup rfl T.n_isinstance bt_isinstance (pa_cons (pv 0) (pa_cons (pe_bltn (v:=.ty "tuple") rfl T.n_tuple bt_tuple rfl) pa_nil))))) (pw_or1 (pt_cmpR op_ne (pe_callB call_len_seq rfl T.n_len bt_len (pa_cons (pv 0) pa_nil)) (pe_callB call_len_seq rfl T.n_len bt_len (pa_cons (pv 1) pa_nil)) (nomark _)))))
   (pss_one (ps_ret pe_bl))
   pss_nil)
   (pss_cons (ps_for PassesOwn.never rfl (pi_zipU rfl T.n_zip (pa_cons (pv 0) (pa_cons (pv 1) pa_nil))) (pg_tup rfl (pgs_cons (pg_name (i:=2) sc_Lpairs.nd rfl (Or.inl rfl)) (pgs_cons (pg_name (i:=3) sc_Lpairs.nd rfl (Or.inl rfl)) pgs_nil)))
   (pss_cons (ps_if (PW.pt (pw_or (pt_not (pt_val (pe_callB call_isTup rfl T.n_isinstance bt_isinstance (pa_cons (pv 2) (pa_cons (pe_bltn (v:=.ty "tuple") rfl T.n_tuple bt_tuple rfl) pa_nil))))) (pw_or (pt_cmpR op_ne (pe_callB call_len_seq rfl T.n_len bt_len (pa_cons (pv 2) pa_nil)) pe_int (nomark _)) (pw_or1 (pt_not (pt_val (pe_callB call_isStr rfl T.n_isinstance bt_isinstance (pa_cons (pe_ix ix_tup (pv 2) pe_int (fun _ _=>rfl)) (pa_cons (pe_bltn (v:=.ty "str") rfl T.n_str bt_str rfl) pa_nil)))))))))
   (pss_one (ps_ret pe_bl))
   pss_nil)
   (pss_one (ps_if (PW.pt (pw_or (pt_not (pt_val (pe_callB call_isInt rfl T.n_isinstance bt_isinstance (pa_cons (pe_ix ix_tup (pv 2) pe_int (fun _ _=>rfl)) (pa_cons (pe_bltn (v:=.ty "int") rfl T.n_int bt_int rfl) pa_nil))))) (pw_or (pt_val (pe_callB call_isBool rfl T.n_isinstance bt_isinstance (pa_cons (pe_ix ix_tup (pv 2) pe_int (fun _ _=>rfl)) (pa_cons (pe_bltn (v:=.ty "bool") rfl T.n_bool bt_bool rfl) pa_nil)))) (pw_or1 (pt_cmpR (op_neC (hu_deep hr)) (pv 2) (pv 3) (nomark _))))))
   (pss_one (ps_ret pe_bl))
   pss_nil))))
   (pss_one (ps_ret pe_bl)))),?_⟩
  try dsimp only [nox_K]
  have hl:(ts.map V.ref).length=(us.map V.ref).length:=by rw [List.length_map,List.length_map,hp.len,hq.len]
  refine ⟨_,rfl,_,_,rfl,.inl ⟨rfl,_,ha⟩,_,rfl,iteF ⟨_,rfl,r,_,rfl,.inr ha,_,rfl,l,_,rfl,.inl hb,rfl,_,rfl,ifNf (by rw [hl]) ?_⟩⟩
  refine ⟨_,rfl,_,rfl,r,l,rfl,⟨_,ha⟩,⟨_,hb⟩,for_zipU (xs:=ts.map V.ref) (ys:=us.map V.ref) hl (fun i σ H'=>Same H H'∧Ex_2_1 (fun v2 v3=>σ=[some (.ref r),some (.ref l),v2,v3])) ⟨Same.refl _,none,none,rfl⟩ ?_ ?_ ?_⟩
  ·rintro i σ H' _ ⟨s,_⟩
   exact ⟨s.seqT ha,s.seq hb⟩
  ·rintro i x y σ H' t hx hy ⟨s,v2,v3,rfl⟩ ht
   obtain ⟨p1,e1,rfl⟩:=refs_get hx
   obtain ⟨p2,e2,rfl⟩:=refs_get hy
   have hi:i < cs.length:=by rw [← hp.len]; exact (List.getElem?_eq_some_iff.mp e1).1
   have g1:=hp.at_ i p1 cs[i] e1 (List.getElem?_eq_getElem hi)
   have g2:=hq.at_ i p2 cs[i] e2 (List.getElem?_eq_getElem hi)
   generalize cs[i]=c at g1 g2
   have s2:=s.then (o:=.tup [.ref p1,.ref p2]) ht
   have t1:SqT K (upd H' t (.tup [.ref p1,.ref p2])) p1 [.str c.1,.int c.2]:=SqT.of (s2 _ _ g1)
   have t2:SqT K (upd H' t (.tup [.ref p1,.ref p2])) p2 [.str c.1,.int c.2]:=SqT.of (s2 _ _ g2)
   refine ⟨t,_,rfl,SqT.new,rfl,_,_,rfl,_,_,rfl,rfl,?_⟩
   refine ⟨_,rfl,_,_,rfl,.inl ⟨rfl,_,t1⟩,_,rfl,iteF ⟨_,rfl,p1,_,rfl,.inr t1,rfl,_,rfl,ifNf rfl ?_⟩⟩
   refine ⟨_,rfl,p1,_,_,_,rfl,rfl,t1,atI_nat (j:=0) rfl,_,_,rfl,rfl,_,rfl,iteF ?_⟩
   refine ⟨_,rfl,p1,_,_,_,rfl,rfl,t1,atI_nat (j:=1) rfl,_,_,rfl,rfl,_,rfl,iteF ?_⟩
   refine ⟨_,rfl,p1,_,_,_,rfl,rfl,t1,atI_nat (j:=1) rfl,_,_,rfl,rfl,_,rfl,iteF ?_⟩
   refine ⟨_,rfl,_,rfl,p1,p2,_,rfl,rfl,DT.keys (xs:=ck c) (ys:=ck c) t1 t2,?_⟩
   rw [decide_eq_true rfl]
   exact ⟨_,rfl,iteF ⟨s2,_,_,rfl⟩⟩
  ·rintro σ H' ⟨s,_⟩
   exact q H' s
end
end Own
--#dictT
set_option Elab.async false
set_option linter.all false
set_option maxRecDepth 100000
set_option maxHeartbeats 4100000
namespace Own
open PySem L2
theorem numAt_eq {hs hs':Hands} (e:hs.map (·.2)=hs'.map (·.2)):numAt hs=numAt hs':=by
 funext o
 cases o with
 | none=>rfl
 | some z=>show (match ddAt hs z with | some x=>numOf x.d | none=>0)=(match ddAt hs' z with | some x=>numOf x.d | none=>0); rw [ddAt_eq e]
theorem keys_str:∀ {kvs:List (Key×V)},Ints kvs→∃ ss:List Str,kvs.map (fun kv=>kV kv.1)=ss.map V.str∧kvs.map (·.1)=ss.map Sum.inr
 | [],_=>⟨[],rfl,rfl⟩
 | kv :: kvs,h=>by
  obtain ⟨ss,e1,e2⟩:=keys_str (kvs:=kvs) fun x hx=>h x (List.mem_cons_of_mem _ hx)
  obtain ⟨⟨y,ey⟩,_⟩:=h kv (List.mem_cons_self ..)
  refine ⟨y :: ss,?_,?_⟩
  ·rw [List.map_cons,List.map_cons,e1,ey]; rfl
  ·rw [List.map_cons,List.map_cons,e2,ey]
theorem val_num {kvs:List (Key×V)} (h:Ints kvs) {u:Str} (hu:(Sum.inr u:Key)∈kvs.map (·.1)):valV kvs (Sum.inr u:Key)=some (.int (numV kvs u)):=by
 have e:=there_num h u
 unfold thereV at e
 cases ev:valV kvs (Sum.inr u:Key) with
 | none=>exact absurd hu (valV_not ev)
 | some v=>rw [ev] at e; exact congrArg some e
theorem numV_eq {a b:List (Key×V)} (h:∀ c,thereV a c=thereV b c) (c:Str):numV a c=numV b c:=by unfold numV; rw [h c]
theorem last_cut {α:Type} {l:List α} (h:l≠[]):Ex_2_1 (fun l0 x=>l=l0 ++ [x]):=⟨l.dropLast,l.getLast h,(List.dropLast_concat_getLast h).symm⟩
theorem lines_of {K:PySem.W.Frag} {H:Hp} {lm:Addr} {A D:Done} {ls:List LN} (a40:A.length≤40) (h:H lm=some (.lst (ls.map fun x=>V.ref x.a))) (hL:∀ y∈ls,LOk H lm A D y):IsLines K H lm ls:=by
 refine ⟨SqL.of h,fun y hy=>SqT.of (hL y hy).p,fun y hy=>⟨⟨SqL.of (hL y hy).l,fun q hq=>SqT.of ((hL y hy).t.at_ q hq)⟩,(hL y hy).t.eq,?_⟩⟩
 have h1:=(hL y hy).t.len
 have h2:=(hL y hy).pm.length_eq
 rw [List.length_map] at h2
 have h3:=List.length_filter_le (inD D) (A.filter (isTo y.pl))
 have h4:=List.length_filter_le (isTo y.pl) A
 lia
theorem last_of_line {H:Hp} {lm:Addr} {hs:Hands} {D:Done} {y:LN} (h:LOk H lm (progAll hs hs.length) D y) (ne:y.ps≠[]):Ex_3_5 (fun (ps0:List TK) (q:TK) (x:Z2×DD)=>y.ps=ps0 ++ [q]) (fun ps0 q x=>H q.1=some (.tup ((pk x.1).map kV))) (fun ps0 q x=>x∈progAll hs hs.length) (fun ps0 q x=>x.2.d.writes=true) (fun ps0 q x=>numAt hs y.zs.getLast?=numOf x.2.d):=by
 obtain ⟨ps0,q,e⟩:=last_cut ne
 have e1:y.ps[ps0.length]?=some q:=by rw [e,List.getElem?_append_right (Nat.le_refl _),Nat.sub_self]; rfl
 obtain ⟨z,z1,z2,z3⟩:=h.t.get e1
 have zl:y.zs.length=ps0.length + 1:=by rw [← h.t.len,e,List.length_append]; rfl
 have z4:y.zs.getLast?=some z:=by rw [List.getLast?_eq_getElem?,zl]; exact z1
 obtain ⟨x,hx,ex⟩:=List.mem_map.mp (h.pm.mem_iff.mp (List.mem_of_getElem? z1))
 obtain ⟨h1,_⟩:=List.mem_filter.mp hx
 obtain ⟨h3,h4⟩:=List.mem_filter.mp h1
 unfold isTo at h4
 rw [Bool.and_eq_true] at h4
 refine ⟨ps0,q,x,e,by rw [ex]; exact z3,h3,h4.1,?_⟩
 rw [z4,← ex]
 show (match ddAt hs x.1 with | some x=>numOf x.d | none=>0)=_
 rw [progAll_dd (Nat.le_refl _) h3]
theorem set_snoc {α:Type} (l:List α) (x y:α):(l ++ [x]).set l.length y=l ++ [y]:=by
 rw [List.set_append_right _ _ (Nat.le_refl _),Nat.sub_self]; rfl
theorem ix_last (n:Nat):ixN (n + 1) (-1)=some n:=by
 unfold ixN
 rw [if_neg (by decide),if_pos (by lia)]
 congr 1
 lia
theorem Copies.snoc {H H':Hp} {D2 t l:Addr} {ls ls':List LN} {j:Nat} {y:LN} {xs ys:List V} (h:Copies H (ls.take j) ls') (hy:ls[j]?=some y) (hl:ls'.length=j) (hj:j < ls.length) (s:Same H H') (hD:H D2=some (.lst xs)) (nD:D2 ∉ ls'.map (·.l)) (nl:D2≠l) (ht:H' t=some (.tup [.str y.pl,.ref l])) (hl2:H' l=some (.lst (y.ps.map fun q=>V.ref q.1))):Copies (upd H' D2 (.lst ys)) (ls.take (j + 1)) (ls' ++ [⟨t,l,y.pl,y.ps,y.zs⟩]):=by
 refine ⟨by rw [List.length_append,hl,List.length_take]; show j + 1=_; lia,fun i y' y1 e1 e2=>?_⟩
 have hD':=s _ _ hD
 by_cases c:i < ls'.length
 ·rw [List.getElem?_append_left c] at e1
  rw [List.getElem?_take_of_lt (by lia)] at e2
  obtain ⟨b1,b2,b3⟩:=h.at_ i y' y1 e1 (by rw [List.getElem?_take_of_lt (by lia)]; exact e2)
  have ne:y'.l≠D2:=fun z=>nD (by rw [← z]; exact List.mem_map.mpr ⟨y',List.mem_of_getElem? e1,rfl⟩)
  exact ⟨by rw [upd_ne (ne_of (s _ _ b1) hD' (by intro z; cases z))]; exact s _ _ b1,by rw [upd_ne ne]; exact s _ _ b2,b3⟩
 ·rw [List.getElem?_append_right (by lia)] at e1
  have e3:i - ls'.length=0:=by
   have:=(List.getElem?_eq_some_iff.mp e1).1
   rw [List.length_cons,List.length_nil] at this
   lia
  have e4:i=j:=by lia
  rw [e3] at e1
  cases e1
  rw [e4,List.getElem?_take_of_lt (by lia),hy] at e2
  cases e2
  exact ⟨by rw [upd_ne (ne_of ht hD' (by intro z; cases z))]; exact ht,by rw [upd_ne nl.symm]; exact hl2,rfl,rfl,rfl⟩
theorem Copies.last {H:Hp} {ls ls':List LN} {hs hs':Hands} (h:Copies H ls ls') (e:hs.map (·.2)=hs'.map (·.2)):ls'.map (lastN hs')=ls.map (lastN hs):=by
 refine List.ext_getElem? fun i=>?_
 rw [List.getElem?_map,List.getElem?_map]
 cases e1:ls'[i]? with
 | none =>
  have hl:=h.len
  have:ls[i]?=none:=by rw [List.getElem?_eq_none_iff] at e1 ⊢; lia
  rw [this]; rfl
 | some y' =>
  have hi:i < ls.length:=by rw [← h.len]; exact (List.getElem?_eq_some_iff.mp e1).1
  rw [List.getElem?_eq_getElem hi]
  obtain ⟨_,_,b3,_,b5⟩:=h.at_ i y' ls[i] e1 (List.getElem?_eq_getElem hi)
  show some (lastN hs' y')=some (lastN hs ls[i])
  unfold lastN
  rw [b3,b5,numAt_eq e]
theorem copied {K:PySem.W.Frag} {H:Hp} {S C:List Str} {p M:Addr} {hs hs':Hands} (G:Good S C hs) (hP:IsProg K H p hs) (hM:H M=some (.lst (hs'.map fun h=>V.ref h.1))) (eh:hs.map (·.2)=hs'.map (·.2)) (hh:∀ h∈hs',H h.1=some (.lst (h.2.map fun x=>V.ref x.a))):IsProg K H M hs'∧Good S C hs'∧DT K H M p true:=by
 have lh:hs.length=hs'.length:=len_eq eh
 have mem':∀ h∈hs',∃ h0∈hs,h.2=h0.2:=fun h hh=>by
  have:h.2∈hs.map (·.2):=by rw [eh]; exact List.mem_map.mpr ⟨h,hh,rfl⟩
  obtain ⟨h0,a1,a2⟩:=List.mem_map.mp this
  exact ⟨h0,a1,a2.symm⟩
 have hn:=G.nh
 refine ⟨⟨SqL.of hM,fun h hm=>?_⟩,⟨by lia,fun h hh=>by obtain ⟨h0,a1,a2⟩:=mem' h hh; rw [a2]; exact G.nd h0 a1,fun h hh=>by obtain ⟨h0,a1,a2⟩:=mem' h hh; rw [a2]; exact G.sp h0 a1,fun h hh=>by obtain ⟨h0,a1,a2⟩:=mem' h hh; rw [a2]; exact G.cf h0 a1,fun h hh=>by obtain ⟨h0,a1,a2⟩:=mem' h hh; rw [a2]; exact G.ca h0 a1,G.ns,G.nc⟩,?_⟩
 ·obtain ⟨h0,a1,a2⟩:=mem' h hm
  exact ⟨SqL.of (hh h hm),by rw [a2]; exact (hP.hs h0 a1).ds⟩
 ·refine DT.lstT (SqL.of hM) hP.l (by rw [List.length_map,List.length_map]; exact lh.symm) fun i x y hx hy=>?_
  obtain ⟨h',e1,rfl⟩:=refs_get hx
  obtain ⟨h1,e2,rfl⟩:=refs_get hy
  have ee:h'.2=h1.2:=by
   have a1:(hs'.map (·.2))[i]?=some h'.2:=by rw [List.getElem?_map,e1]; rfl
   rw [← eh,List.getElem?_map,e2] at a1
   exact (Option.some.inj a1).symm
  exact DC.refs (refs_are (·.a) h'.2) (SqL.of (hh h' (List.mem_of_getElem? e1))) (by rw [ee]; exact (hP.hs h1 (List.mem_of_getElem? e2)).l)
inductive Sp_Ltold (K:PySem.W.Frag) (vs:List V) (H:Hp) (Q:VK) (E_:XK):Prop
 | mk (p:Addr) (a:Addr) (ns:List Int) (turn:Int) (hs:Hands) (S:List Str) (C:List Str) (h0_:vs=[.ref p,.ref a,.int turn]) (h1_:IsProg K H p hs) (h2_:Good S C hs) (h3_:(hs.map fun h=>h.2.length).sum≤40) (h4_:SqL K H a (ns.map V.int)) (h5_:0≤turn) (h6_:turn≤1) (h7_:∀ H',Same H H'→Q (.bl true) H'):Sp_Ltold K vs H Q E_
noncomputable def sp_Ltold (K:PySem.W.Frag):Sp:=Sp_Ltold K
inductive TI1 (H6:Hp) (p a d fm dn hl lm T M r:Addr) (turn:Int) (σ:St) (H':Hp):Prop
 | mk (v v' v3 v4 v5:Option V) (h0_:Same H6 H') (h1_:σ=[some (.ref p),some (.ref a),some (.int turn),some (.ref d),some (.ref fm),some (.ref dn),some (.ref hl),some (.ref lm),some (.ref T),some (.ref M),some (.ref r),v,v',v3,v4,v5]):TI1 H6 p a d fm dn hl lm T M r turn σ H'
inductive TI2 (H1:Hp) (E hd:Addr) (kvs:List (Key×V)) (us:List Str) (i:Nat) (σ:St) (ys:List V) (H':Hp):Prop
 | mk (ts:List Addr) (v:Option V) (h0_:Same H1 H') (h1_:H' E=some (.lst ys)) (h2_:ys=ts.map V.ref) (h3_:PrAt H' ts ((us.take i).map fun u=>(u,numV kvs u))) (h4_:ts.length=i) (h5_:σ=[v,some (.ref hd)]):TI2 H1 E hd kvs us i σ ys H'
inductive TI3 (H1:Hp) (due:Addr) (hs:Hands) (ls:List LN) (p a d fm dn hl lm T M r:Addr) (turn:Int) (u u':Option V) (i:Nat) (σ:St) (H':Hp):Prop
 | mk (ts:List Addr) (v v':Option V) (h0_:Same H1 H') (h1_:H' due=some (.lst (ts.map V.ref))) (h3_:PrAt H' ts ((ls.take i).map (lastN hs))) (h4_:ts.length=i) (h5_:σ=[some (.ref p),some (.ref a),some (.int turn),some (.ref d),some (.ref fm),some (.ref dn),some (.ref hl),some (.ref lm),some (.ref T),some (.ref M),some (.ref r),u,u',some (.ref due),v,v']):TI3 H1 due hs ls p a d fm dn hl lm T M r turn u u' i σ H'
section
variable {P:Program} {w:World} {K:PySem.W.Frag} {mg:Str→Option Value} {base:Heap}
theorem sc_Ltold:FnScope ["_law_made","_law_script","_law_turn","_law_deeds_here","_law_froms","_law_done","_law_helds","_law_lines_here","_law_given","_law_handed","_law_found","_law_one","_law_held","_law_due","_law_place_here","_law_row"] ["_law_made","_law_script","_law_turn"] (defScope s_Ltold):=⟨rfl,rfl,rfl,by decide +kernel,rfl,by decide +kernel,by decide +kernel⟩
theorem ok_Ltold {f:Addr} {fd:FuncData} (F:Fun K "_law_told" "_law_told" s_Ltold f fd) (T:Txt K mg) (h_Ldeeds:Has P w K mg base 1 "_law_deeds" ["_law_made"] (sp_Ldeeds K)) (h_Lgone:Has P w K mg base 3 "_law_gone" ["_law_made","_law_deeds_here","_law_script","_law_turn"] (sp_Lgone K)) (h_Llines:Has P w K mg base 3 "_law_lines" ["_law_deeds_here","_law_script","_law_done","_law_turn"] (sp_Llines K)) (h_outcomeof:Has P w K mg base 8 "outcome_of" ["program","tale"] (sp_outcomeof K)) (h_Lpairs:Has P w K mg base 1 "_law_pairs" ["_law_found","_law_due"] (sp_Lpairs K)):FnOk P w K mg base CX0 9 f fd ["_law_made","_law_script","_law_turn"] (sp_Ltold K):=by
 refine F.ok (k:=8) sc_Ltold (fun vs H Q E h=>?_) (fun cdv A outer s H vs Q E hr h=>?_)
 ·obtain ⟨p,a,ns,turn,hs,S,C,rfl,_⟩:=h
  rfl
 ·obtain ⟨p,a,ns,turn,hs,S,C,rfl,hP,G,htot,hS,t0,t1,q⟩:=h
  have hu:=hu_of hr
  refine ⟨_,(pss_cons (ps_set (i:=3) sc_Ltold.nd rfl (Or.inl rfl) (pe_fn h_Ldeeds (hr.mono (by decide)) (pa_cons (pv 0) pa_nil)))
   (pss_cons (ps_asg (pe_fn h_Lgone (hr.mono (by decide)) (pa_cons (pv 0) (pa_cons (pv 3) (pa_cons (pv 1) (pa_cons (pv 2) pa_nil))))) (pg_tup rfl (pgs_cons (pg_name (i:=4) sc_Ltold.nd rfl (Or.inl rfl)) (pgs_cons (pg_name (i:=5) sc_Ltold.nd rfl (Or.inl rfl)) (pgs_cons (pg_name (i:=6) sc_Ltold.nd rfl (Or.inl rfl)) pgs_nil)))))
   (pss_cons (ps_set (i:=7) sc_Ltold.nd rfl (Or.inl rfl) (pe_fn h_Llines (hr.mono (by decide)) (pa_cons (pv 3) (pa_cons (pv 1) (pa_cons (pv 5) (pa_cons (pv 2) pa_nil))))))
   (pss_cons (ps_set (i:=8) sc_Ltold.nd rfl (Or.inl rfl) (pe_tup (pa_cons (pe_callTy call_list_of rfl T.n_list bt_list (pa_cons (pv 4) pa_nil)) (pa_cons (pe_comp (Nc:=["_law_place_here","_law_row"]) (nt:=2) (js:=[]) rfl ⟨rfl,rfl,rfl,rfl,.nil,rfl,⟨["_law_place_here","_law_row"],[],rfl,rfl,.nil⟩⟩ (pi_list (pv 7)) (fun C s3 H3 fp pins=>⟨(pg_tupK (K:=K) 2 rfl rfl (pgs_cons (pg_name (i:=0) (show (["_law_place_here","_law_row"]:List Str).Nodup by decide +kernel) rfl (Or.inl rfl) (hf:=Or.inr rfl)) (pgs_cons (pg_name (i:=1) (show (["_law_place_here","_law_row"]:List Str).Nodup by decide +kernel) rfl (Or.inl rfl) (hf:=Or.inr rfl)) pgs_nil)) rfl rfl),pts_nil,(pe_tup (pa_cons (pv 0) (pa_cons (pe_callTy (call_list_ofK (K:=K) rfl) rfl T.n_list bt_list (pa_cons (pv 1) pa_nil)) pa_nil)))⟩)) pa_nil))))
   (pss_cons (ps_comp (i:=9) (Nc:=["_law_hand"]) (nt:=1) (js:=[]) rfl sc_Ltold.nd rfl rfl ⟨rfl,rfl,rfl,rfl,.nil,rfl,⟨["_law_hand"],[],rfl,rfl,.nil⟩⟩ (pi_list (pv 0)) (fun C s3 H3 fp pins=>⟨(pg_name (i:=0) (show (["_law_hand"]:List Str).Nodup by decide +kernel) rfl (Or.inl rfl)),pts_nil,(pe_callTy (call_list_ofK (K:=K) rfl) rfl T.n_list bt_list (pa_cons (pv 0) pa_nil))⟩))
   (pss_cons (ps_set (i:=10) sc_Ltold.nd rfl (Or.inl rfl) (pe_fn h_outcomeof (hr.mono (by decide)) (pa_cons (pv 9) (pa_cons (pv 8) pa_nil))))
   (pss_cons (ps_if (PW.pt (pw_or (pt_cmpR (op_neC (hu_deep hr)) (pv 9) (pv 0) (nomark _)) (pw_or (pt_cmpR (op_neC (hu_deep hr)) (pv 8) (pe_tup (pa_cons (pv 4) (pa_cons (pv 7) pa_nil))) (nomark _)) (pw_or (pt_not (pt_val (pe_callB call_isTup rfl T.n_isinstance bt_isinstance (pa_cons (pv 10) (pa_cons (pe_bltn (v:=.ty "tuple") rfl T.n_tuple bt_tuple rfl) pa_nil))))) (pw_or1 (pt_cmpR op_ne (pe_callB call_len_seq rfl T.n_len bt_len (pa_cons (pv 10) pa_nil)) pe_int (nomark _)))))))
   (pss_one (ps_ret pe_bl))
   pss_nil)
   (pss_cons (ps_if (PW.pt (pw_or (pt_not (pt_val (pe_callB call_isTup rfl T.n_isinstance bt_isinstance (pa_cons (pe_ix ix_tup (pv 10) pe_int (fun _ _=>rfl)) (pa_cons (pe_bltn (v:=.ty "tuple") rfl T.n_tuple bt_tuple rfl) pa_nil))))) (pw_or1 (pt_cmpR op_ne (pe_callB call_len_seq rfl T.n_len bt_len (pa_cons (pe_ix ix_tup (pv 10) pe_int (fun _ _=>rfl)) pa_nil)) (pe_callB call_len_seq rfl T.n_len bt_len (pa_cons (pv 0) pa_nil)) (nomark _)))))
   (pss_one (ps_ret pe_bl))
   pss_nil)
   (pss_cons (ps_for PassesOwn.never rfl (pi_zipU rfl T.n_zip (pa_cons (pe_ix ix_tup (pv 10) pe_int (fun _ _=>rfl)) (pa_cons (pv 6) pa_nil))) (pg_tup rfl (pgs_cons (pg_name (i:=11) sc_Ltold.nd rfl (Or.inl rfl)) (pgs_cons (pg_name (i:=12) sc_Ltold.nd rfl (Or.inr rfl)) pgs_nil)))
   (pss_one (ps_if (pt_not (pt_val (pe_fn h_Lpairs (hr.mono (by decide)) (pa_cons (pv 11) (pa_cons (pe_comp (Nc:=["_law_name","_law_held"]) (nt:=1) (js:=[12]) rfl ⟨rfl,rfl,rfl,rfl,(.cons rfl .nil),rfl,⟨["_law_name"],["_law_held"],rfl,rfl,(.cons rfl rfl rfl .nil)⟩⟩ (pi_list (pe_callB call_sorted_strs rfl T.n_sorted bt_sorted (pa_cons (pe_callTy (call_list_keysK rfl) rfl T.n_list bt_list (pa_cons (pv 12) pa_nil)) pa_nil))) (fun C s3 H3 fp pins=>⟨(pg_name (i:=0) (show (["_law_name","_law_held"]:List Str).Nodup by decide +kernel) rfl (Or.inl rfl)),pts_nil,(pe_tup (pa_cons (pv 0) (pa_cons (pe_dget hu (pv 1) (pv 0) (fun _ _=>rfl)) pa_nil)))⟩)) pa_nil)))))
   (pss_one (ps_ret pe_bl))
   pss_nil)))
   (pss_cons (ps_set (i:=13) sc_Ltold.nd rfl (Or.inl rfl) (pe_lst pa_nil))
   (pss_cons (ps_for PassesOwn.never rfl (pi_list (pv 7)) (pg_tup rfl (pgs_cons (pg_name (i:=14) sc_Ltold.nd rfl (Or.inl rfl)) (pgs_cons (pg_name (i:=15) sc_Ltold.nd rfl (Or.inl rfl)) pgs_nil)))
   (pss_cons (ps_expr (pe_bm PySem.F.plainAttrs_list PySem.F.slot_list_append PySem.F.type_list_append mt_append (pv 13) (pa_cons (pe_tup (pa_cons (pv 14) (pa_cons pe_int pa_nil))) pa_nil)))
   (pss_one (ps_if (pt_cmpR (op_neC (hu_deep hr)) (pv 15) (pe_lst pa_nil) (nomark _))
   (pss_one (ps_asg (pe_tup (pa_cons (pv 14) (pa_cons (pe_ix ix_tup (pe_dget hu (pv 3) (pe_ix ix_list (pv 15) (pe_un un_neg pe_int) (fun _ _=>rfl)) (fun _ _=>rfl)) (pe_un un_neg pe_int) (fun _ _=>rfl)) pa_nil))) (pg_sub (pv 13) (pe_un un_neg pe_int) set_list)))
   pss_nil))))
   (pss_one (ps_ret (pe_fn h_Lpairs (hr.mono (by decide)) (pa_cons (pe_ix ix_tup (pv 10) pe_int (fun _ _=>rfl)) (pa_cons (pv 13) pa_nil)))))))))))))))),?_⟩
  try dsimp only [nox_K]
  have hn6:=G.nh
  refine tSeq_hide fun N hN=>⟨_,rfl,p,hs,S,C,rfl,hP,G,fun d H1 s1 nd hd=>hN _ _ ?_⟩
  clear hN N
  refine tSeq_hide fun N hN=>?_
  refine ⟨_,rfl,_,rfl,_,rfl,_,rfl,p,d,a,ns,turn,hs,S,C,rfl,hP.same s1,G,htot,hd,s1.seq hS,t0,t1,fun T dn fm hl ff fs cs num H2 s2 hT W=>?_⟩
  refine ⟨T,_,rfl,SqT.of hT,rfl,_,_,rfl,_,_,rfl,_,_,rfl,rfl,hN _ _ ?_⟩
  clear hN N
  refine tSeq_hide fun N hN=>?_
  have s12:=s1.trans s2
  have a40:=all40 htot
  have ndA:((progAll hs hs.length).map (·.1)).Nodup:=(progAll_rising hs hs.length).nodup
  have hd2:=s2 _ _ hd
  have hP2:=hP.same s12
  refine ⟨_,rfl,_,rfl,_,rfl,_,rfl,d,a,dn,ns,turn,progAll hs hs.length,(progW num hs hs.length).done,S,rfl,hd2,a40,ndA,fun x hx=>⟨all_in hP2 hx,progAll_pt hx⟩,fun x hx=>all_small hn6 G.nd (Nat.le_refl _) hx,fun x hx z hz=>?_,G.ns,W.edn,s12.seq hS,t0,t1,fun lm ls us H3 s3 hlm hLO hlp hrise ndu hmu hl4=>hN _ _ ?_⟩
  ·obtain ⟨m,_,m1,m2⟩:=progAll_hand (Nat.le_refl _) hx
   have ex:hs[m]?=some hs[m]:=List.getElem?_eq_getElem m1
   rw [handAt_of ex] at m2
   exact G.sp _ (List.mem_of_getElem? ex) _ m2 z hz
  obtain ⟨hfit,hwalk⟩:=gone_fits W.rd W.so hmu hrise hlp fun y hy=>(hLO y hy).pm
  have hF3:IsFroms K H3 fm fs:=⟨SqL.of (s3 _ _ W.efm),fun f hf=>SqT.of (s3 _ _ (W.fp f hf).1),fun f hf=>s3 _ _ (W.fp f hf).2.1,fun f hf=>(W.fp f hf).2.2.same s3⟩
  have hL:IsLines K H3 lm ls:=lines_of a40 hlm hLO
  have hP3:=hP2.same s3
  have nf:=W.nf
  clear hN N
  refine tSeq_hide fun N hN=>?_
  refine ⟨_,rfl,fm,_,rfl,.inl hF3.l,fun l' hl'=>?_⟩
  have s8:Same H3 (upd H3 l' (.lst (fs.map fun f=>V.ref f.a))):=Same.new hl'
  have hl8:(upd H3 l' (.lst (fs.map fun f=>V.ref f.a))) l'=some (.lst (fs.map fun f=>V.ref f.a)):=upd_same
  generalize upd H3 l' (.lst (fs.map fun f=>V.ref f.a))=H8 at s8 hl8 ⊢
  have hL8:=hL.same s8
  refine ⟨_,rfl,lm,rfl,⟨_,hL8.l⟩,fun D2 hD2=>?_⟩
  refine comp_list (xs:=ls.map fun y=>V.ref y.a) (OI3 H8 D2 ls) ?_ ?_ ?_ ?_ ?_
  ·exact ⟨[],none,none,Same.new hD2,upd_same,rfl,⟨rfl,fun i y' y e=>by simp at e⟩,(by simp),rfl⟩
  ·rintro j σ ys H9 hj ⟨ls',v1,v2,s9,hD9,rfl,hc9,nD,rfl⟩
   refine ⟨s9.seq hL8.l,hD9,?_⟩
   rw [List.length_map,hc9.len,List.length_take]
   lia
  ·rw [List.length_map]; exact Nat.le_of_lt (small1000 (by lia))
  ·rintro j y0 σ ys H9 hy ⟨ls',v1,v2,s9,hD9,rfl,hc9,nD,rfl⟩
   obtain ⟨y,hyj,rfl⟩:=refs_get hy
   have hym:=List.mem_of_getElem? hyj
   have hjl:j < ls.length:=(List.getElem?_eq_some_iff.mp hyj).1
   have hL9:=hL8.same s9
   have hl5:ls'.length=j:=by rw [hc9.len,List.length_take]; lia
   refine ⟨y.a,_,rfl,hL9.p y hym,rfl,_,_,rfl,_,_,rfl,rfl,?_⟩
   refine ⟨_,rfl,_,rfl,y.l,_,rfl,.inl (hL9.q y hym).1.l,fun l2 hl2=>⟨(by show 2≤sizeLine; decide),fun t2 ht2=>?_⟩⟩
   have s10:Same H9 (upd (upd H9 l2 (.lst (y.ps.map fun q=>V.ref q.1))) t2 (.tup [.str y.pl,.ref l2])):=(Same.new hl2).then ht2
   have n2:l2≠t2:=Ne.symm (upd_none ht2).1
   have nD2:D2≠l2:=ne_of_none hD9 hl2
   refine ⟨s10 _ _ hD9,ls' ++ [⟨t2,l2,y.pl,y.ps,y.zs⟩],_,_,Same.at hD2 (s9.trans s10),upd_same,by rw [List.map_append]; rfl,?_,?_,rfl⟩
   ·refine hc9.snoc (t:=t2) (l:=l2) hyj (by lia) hjl s10 hD9 nD nD2 upd_same ?_
    rw [upd_ne n2,upd_same]
   ·rw [List.map_append,List.mem_append]
    rintro (c | c)
    ·exact nD c
    ·exact nD2 (List.mem_singleton.mp c)
  rintro σ ys H9 ⟨ls',v1,v2,s9,hD9,rfl,hc9,nD,rfl⟩
  rw [List.length_map,List.take_of_length_le (Nat.le_refl _)] at hc9
  refine ⟨(by show 2≤sizeLine; decide),fun T' hT'=>?_⟩
  have sT:Same H9 (upd H9 T' (.tup [.ref l',.ref D2])):=Same.new hT'
  have s39:=s8.trans (s9.trans sT)
  have hF10:=hF3.same s39
  have hLm:=hL.same s39
  obtain ⟨hL10,e10,z10,d10⟩:=(hc9.same sT).lines hLm (sT _ _ hD9)
  have hl10:(upd H9 T' (.tup [.ref l',.ref D2])) l'=some (.lst (fs.map fun f=>V.ref f.a)):=sT _ _ (s9 _ _ hl8)
  have hT10:(upd H9 T' (.tup [.ref l',.ref D2])) T'=some (.tup [.ref l',.ref D2]):=upd_same
  have hc10:=hc9.same sT
  have s03:Same H (upd H9 T' (.tup [.ref l',.ref D2])):=s12.trans (s3.trans s39)
  have s2x:=s3.trans s39
  generalize upd H9 T' (.tup [.ref l',.ref D2])=HX at s39 hF10 hLm hL10 d10 hl10 hT10 hc10 s03 s2x ⊢
  have hPX:=hP.same s03
  refine hN _ _ ?_
  clear hN N
  refine tSeq_hide fun N hN=>?_
  refine ⟨_,rfl,p,rfl,⟨_,hPX.l⟩,fun M hM=>?_⟩
  refine comp_list (xs:=hs.map fun h=>V.ref h.1) (OI1 HX M hs) ?_ ?_ ?_ ?_ ?_
  ·exact ⟨[],none,Same.new hM,upd_same,rfl,rfl,(fun h hh=>nomatch hh),rfl⟩
  ·rintro j σ ys H5 hj ⟨hs',v,s5,hM5,rfl,e5,hh5,rfl⟩
   refine ⟨s5.seq hPX.l,hM5,?_⟩
   have:=congrArg List.length e5
   rw [List.length_map,List.length_map,List.length_take] at this
   rw [List.length_map]
   lia
  ·rw [List.length_map]; exact Nat.le_of_lt (small1000 (by lia))
  ·rintro j y σ ys H5 hy ⟨hs',v,s5,hM5,rfl,e5,hh5,rfl⟩
   obtain ⟨hd,hx,rfl⟩:=refs_get hy
   have hH:=(hPX.hs hd (List.mem_of_getElem? hx)).same s5
   refine ⟨_,rfl,hd.1,_,rfl,.inl hH.l,fun l2 hl2=>?_⟩
   have s6:Same H5 (upd H5 l2 (.lst (hd.2.map fun x=>V.ref x.a))):=Same.new hl2
   have n2:M≠l2:=ne_of_none hM5 hl2
   refine ⟨s6 _ _ hM5,hs' ++ [(l2,hd.2)],_,Same.at hM (s5.trans s6),upd_same,by rw [List.map_append]; rfl,by rw [List.map_append,e5,List.take_add_one,hx,List.map_append]; rfl,fun h hh=>?_,rfl⟩
   rcases List.mem_append.mp hh with hh | hh
   ·obtain ⟨b1,b2⟩:=hh5 h hh
    exact ⟨by rw [upd_ne b2]; exact s6 _ _ b1,b2⟩
   ·rw [List.mem_singleton.mp hh]
    exact ⟨by rw [upd_ne n2.symm,upd_same],n2.symm⟩
  rintro σ ys H5 ⟨hs',v,s5,hM5,rfl,e5,hh5,rfl⟩
  rw [List.length_map,List.take_of_length_le (Nat.le_refl _)] at e5
  have eh:hs.map (·.2)=hs'.map (·.2):=e5.symm
  have hP5:=hPX.same s5
  obtain ⟨hP',G',dM⟩:=copied G hP5 hM5 eh fun h hh=>(hh5 h hh).1
  have F':Fits hs' fs ls':=(hfit.hands eh).lines e10 z10
  have hF5:=hF10.same s5
  have hL5:=hL10.same s5
  have wE:=walk_eq eh fs
  rw [hwalk] at wE
  refine hN _ _ ?_
  clear hN N
  refine tSeq_hide fun N hN=>?_
  refine ⟨_,rfl,_,rfl,M,T',hs',S,C,l',D2,fs,ls',rfl,hP',G',⟨SqT.of (s5 _ _ hT10),⟨SqL.of (s5 _ _ hl10),hF5.p,hF5.t,hF5.v⟩,hL5,by lia,by rw [hc9.len]; lia⟩,F',by rw [e10,hlp]; exact ndu,fun r H6 s6 out=>?_⟩
  rw [← wE] at out
  obtain ⟨ta,tb,as,bs,o1,o2,o3,o4,o5,o6⟩:=out.a
  have s56:=s5.trans s6
  refine hN _ _ ?_
  clear hN N
  refine tSeq_hide fun N hN=>?_
  refine ⟨_,rfl,_,rfl,M,p,_,rfl,rfl,dt_mono s6 dM,_,rfl,iteF ?_⟩
  refine ⟨_,rfl,_,rfl,_,rfl,(by show 2≤sizeLine; decide),fun T2 hT2=>?_⟩
  have s7:Same H6 (upd H6 T2 (.tup [.ref fm,.ref lm])):=Same.new hT2
  have s57:=s56.trans s7
  have dG:DT K (upd H6 T2 (.tup [.ref fm,.ref lm])) T' T2 true:=by
   refine DT.tupT (SqT.of (s57 _ _ hT10)) SqT.new rfl fun i x y hx hy=>?_
   match i,hx,hy with
   | 0,hx,hy =>
    simp at hx hy
    subst hx hy
    exact DC.refs (refs_are (·.a) fs) (SqL.of (s57 _ _ hl10)) (s57.seq hF10.l)
   | 1,hx,hy =>
    simp at hx hy
    subst hx hy
    exact dc_mono s57 d10
   | i + 2,hx,hy=>simp at hx
  refine ⟨T',T2,_,rfl,rfl,dG,_,rfl,iteF ?_⟩
  clear dG
  generalize upd H6 T2 (.tup [.ref fm,.ref lm])=H7 at s7 s57 ⊢
  have s27:=s2x.trans s57
  have h1:SqT K H7 r [.ref ta,.ref tb]:=SqT.of (s7 _ _ o1)
  have h2:SqT K H7 ta (as.map V.ref):=SqT.of (s7 _ _ o2)
  have hhl:=s27 _ _ W.ehl
  have hP7:=hP2.same s27
  have fll:(progW num hs hs.length).filled.length=hs.length:=(progW_len num G hs.length).2.2
  have ffl:=W.fa.len
  have csl:=W.cl
  have hlen:(as.map V.ref).length=(hs.map fun h=>V.ref h.1).length:=by rw [List.length_map,List.length_map]; lia
  have hlen2:(as.map V.ref).length=(ff.map V.ref).length:=by rw [List.length_map,List.length_map]; lia
  refine ⟨_,rfl,_,_,rfl,.inl ⟨rfl,_,h1⟩,_,rfl,iteF ⟨_,rfl,r,_,rfl,.inr h1,rfl,_,rfl,ifNf rfl ?_⟩⟩
  refine hN _ _ ?_
  clear hN N
  refine tSeq_hide fun N hN=>?_
  refine ⟨_,rfl,r,_,_,_,rfl,rfl,h1,atI_nat (j:=0) rfl,_,_,rfl,.inl ⟨rfl,_,h2⟩,_,rfl,iteF ⟨_,rfl,r,_,_,_,rfl,rfl,h1,atI_nat (j:=0) rfl,ta,_,rfl,.inr h2,_,rfl,p,_,rfl,.inl hP7.l,rfl,_,rfl,ifNf (by rw [hlen]) ?_⟩⟩
  refine hN _ _ ?_
  clear hN N
  refine tSeq_hide fun N hN=>?_
  refine ⟨_,rfl,r,_,_,_,rfl,rfl,h1,atI_nat (j:=0) rfl,_,rfl,ta,hl,rfl,⟨_,h2⟩,⟨_,SqL.of hhl⟩,for_zipU (xs:=as.map V.ref) (ys:=ff.map V.ref) hlen2 (fun i σ H'=>TI1 H7 p a d fm dn hl lm T' M r turn σ H') ?_ ?_ ?_ ?_⟩
  ·exact ⟨none,none,none,none,none,Same.refl _,rfl⟩
  ·rintro i σ H' _ ⟨_,_,_,_,_,s,rfl⟩
   exact ⟨s.seqT h2,s.seq (SqL.of hhl)⟩
  ·rintro i x y σ H' t hx hy ⟨w1,w2,w3,w4,w5,s,rfl⟩ ht
   obtain ⟨one,e1,rfl⟩:=refs_get hx
   obtain ⟨hd,e2,rfl⟩:=refs_get hy
   have sB:=s.then (o:=.tup [.ref one,.ref hd]) ht
   have hic:i < cs.length:=by rw [← ffl]; exact (List.getElem?_eq_some_iff.mp e2).1
   obtain ⟨kvs,ec⟩:∃ kvs,cs[i]?=some kvs:=⟨_,List.getElem?_eq_getElem hic⟩
   have hkv:=W.fa.at_ i hd kvs e2 ec
   obtain ⟨k1,k2,k3,k4,f,k5,k6⟩:=W.ck i kvs ec
   obtain ⟨us1,ts1,u1,u2,u3⟩:=o6 i one f e1 k5
   refine ⟨t,_,rfl,SqT.new,rfl,_,_,rfl,_,_,rfl,rfl,?_⟩
   generalize upd H' t (.tup [.ref one,.ref hd])=HB at sB ⊢
   obtain ⟨ss,es1,es2⟩:=keys_str k1
   have hkB:=sB _ _ (s27 _ _ hkv)
   have ndS:ss.Nodup:=by
    rw [es2] at k2
    exact List.Pairwise.of_map Sum.inr (fun a b h e=>h (by rw [e])) k2
   have memS:∀ z,z∈ss ↔ ∃ x∈handAt hs i,z∈fill x.d∨z∈asks x:=fun z=>by
    rw [← k4 z,es2,List.mem_map]
    exact ⟨fun h=>⟨z,h,rfl⟩,fun ⟨y,h,e⟩=>by rw [← Sum.inr.inj e]; exact h⟩
   have lenS:ss.length≤4:=by
    have h:=nodup_le ndS (S:=C) fun z hz=>by
     obtain ⟨x,x1,x2⟩:=(memS z).mp hz
     have ih:i < hs.length:=by lia
     rw [handAt_of (List.getElem?_eq_getElem ih)] at x1
     have hm:=List.mem_of_getElem? (List.getElem?_eq_getElem ih)
     rcases x2 with x2 | x2
     ·exact G.cf _ hm x x1 z x2
     ·exact G.ca _ hm x x1 z x2
    have:=G.nc
    lia
   refine ⟨_,rfl,_,rfl,hd,kvs,rfl,Rd.of hkB,fun l1 hl1=>?_⟩
   rw [es1]
   refine ⟨l1,ss,rfl,SqL.of upd_same,by lia,ndS,fun l2 us2 hl2 hperm hrs=>?_⟩
   have eu:us2=us1:=rising_one hrs u2.1 fun z=>by rw [hperm.mem_iff,memS z,handAt_eq eh i]; exact (u2.2 z).symm
   subst eu
   have sC:=(Same.new hl1).then (o:=.lst (us2.map V.str)) hl2
   have hus:(upd (upd HB l1 (.lst (ss.map V.str))) l2 (.lst (us2.map V.str))) l2=some (.lst (us2.map V.str)):=upd_same
   generalize upd (upd HB l1 (.lst (ss.map V.str))) l2 (.lst (us2.map V.str))=HC at sC hus ⊢
   have hul:=hperm.length_eq
   refine ⟨l2,rfl,⟨_,SqL.of hus⟩,fun E hE=>?_⟩
   refine comp_list (xs:=us2.map V.str) (TI2 HC E hd kvs us2) ?_ ?_ ?_ ?_ ?_
   ·exact ⟨[],none,Same.new hE,upd_same,rfl,PrAt.nil,rfl,rfl⟩
   ·rintro j σ ys H8 hj ⟨ts,v,s,hE',rfl,hp,hl2,rfl⟩
    exact ⟨s.seq (SqL.of hus),hE',by rw [List.length_map]; lia⟩
   ·rw [List.length_map]; exact Nat.le_of_lt (small1000 (by lia))
   ·rintro j y σ ys H8 hy ⟨ts,v,s,hE',rfl,hp,hl2,rfl⟩
    obtain ⟨u,hu2,rfl⟩:=refs_get hy
    have hk8:=s _ _ (sC _ _ hkB)
    have iu:(Sum.inr u:Key)∈kvs.map (·.1):=by
     rw [es2]
     exact List.mem_map.mpr ⟨u,hperm.mem_iff.mp (List.mem_of_getElem? hu2),rfl⟩
    have g:=DGet.k (k:=Sum.inr u) hk8
    rw [val_num k1 iu] at g
    refine ⟨_,rfl,_,rfl,_,rfl,hd,_,rfl,g,(by show 2≤sizeLine; decide),fun t ht=>?_⟩
    have s2:Same H8 (upd H8 t (.tup [.str u,.int (numV kvs u)])):=Same.new ht
    refine ⟨s2 _ _ hE',ts ++ [t],_,Same.at hE (s.trans s2),upd_same,by rw [List.map_append]; rfl,?_,by rw [List.length_append,hl2]; rfl,rfl⟩
    have et:(us2.take (j + 1)).map (fun u=>(u,numV kvs u))=(us2.take j).map (fun u=>(u,numV kvs u)) ++ [(u,numV kvs u)]:=by rw [List.take_add_one,hu2,List.map_append]; rfl
    rw [et]
    exact ((hp.same s2).snoc upd_same).lset (s2 _ _ hE')
   rintro σ ys H8 ⟨ts,v,sD,hE',rfl,hp,hl2,rfl⟩
   rw [List.length_map,List.take_of_length_le (Nat.le_refl _)] at hp
   have en:us2.map (fun u=>(u,numV kvs u))=us2.map (fun u=>(u,numV f u)):=List.map_congr_left fun u _=>by rw [numV_eq k6]
   rw [en] at hp
   have s7D:=sB.trans (sC.trans sD)
   have s6D:=s7.trans s7D
   exact ⟨one,E,ts1,ts,_,rfl,SqT.of (s6D _ _ u1),SqL.of hE',u3.same s6D,hp,fun H9 s9=>⟨_,rfl,iteF ⟨_,_,_,_,_,s7D.trans s9,rfl⟩⟩⟩
  rintro σ H8 ⟨w1,w2,w3,w4,w5,s8',rfl⟩
  refine hN _ _ ?_
  clear hN N
  refine tSeq_hide fun N hN=>?_
  refine ⟨by decide,fun due hdue=>hN _ _ ?_⟩
  clear hN N
  refine tSeq_hide fun N hN=>?_
  have hdu:=Same.new (o:=.lst []) hdue
  have s38:Same H3 H8:=s39.trans (s57.trans s8')
  have s68:=s7.trans s8'
  refine ⟨_,rfl,lm,rfl,⟨_,(hL.same (s38.trans hdu)).l⟩,for_list (xs:=ls.map fun x=>V.ref x.a) (TI3 H8 due hs ls p a d fm dn hl lm T' M r turn w1 w2) ?_ ?_ ?_ ?_⟩
  ·exact ⟨[],_,_,hdu,upd_same,PrAt.nil,rfl,rfl⟩
  ·rintro i σ H' _ ⟨ts,v,v',s,hx,hp,hl2,rfl⟩
   exact (hL.same (s38.trans s)).l
  ·rintro i y0 σ H' hy ⟨ts,v,v',s,hx,hp,hl2,rfl⟩
   obtain ⟨y,hyi,rfl⟩:=refs_get hy
   have hym:=List.mem_of_getElem? hyi
   have hL':=hL.same (s38.trans s)
   have hi4:i < ls.length:=(List.getElem?_eq_some_iff.mp hyi).1
   refine ⟨y.a,_,rfl,hL'.p y hym,rfl,_,_,rfl,_,_,rfl,rfl,?_⟩
   refine ⟨_,rfl,.inl ⟨rfl,_,SqL.of hx⟩,_,rfl,(by show 2≤sizeLine; decide),fun t ht=>?_⟩
   have s2:Same H' (upd H' t (.tup [.str y.pl,.int 0])):=Same.new ht
   refine ⟨due,_,_,rfl,rfl,s2 _ _ hx,(by rw [List.length_map]; exact small1000 (by lia)),?_⟩
   have et:(ls.take (i + 1)).map (lastN hs)=(ls.take i).map (lastN hs) ++ [lastN hs y]:=by rw [List.take_add_one,hyi,List.map_append]; rfl
   have ea:ts.map V.ref ++ [V.ref t]=(ts ++ [t]).map V.ref:=by rw [List.map_append]; rfl
   rw [ea]
   have s3':Same H8 (upd (upd H' t (.tup [.str y.pl,.int 0])) due (.lst ((ts ++ [t]).map V.ref))):=Same.at hdue (s.trans s2)
   have hx3:(upd (upd H' t (.tup [.str y.pl,.int 0])) due (.lst ((ts ++ [t]).map V.ref))) due=some (.lst ((ts ++ [t]).map V.ref)):=upd_same
   have hp3:PrAt (upd (upd H' t (.tup [.str y.pl,.int 0])) due (.lst ((ts ++ [t]).map V.ref))) (ts ++ [t]) ((ls.take i).map (lastN hs) ++ [(y.pl,0)]):=((hp.same s2).snoc upd_same).lset (s2 _ _ hx)
   have hp4:=(hp.same s2).lset (ys:=(ts ++ [t]).map V.ref) (s2 _ _ hx)
   generalize upd (upd H' t (.tup [.str y.pl,.int 0])) due (.lst ((ts ++ [t]).map V.ref))=HD at s3' hx3 hp3 hp4 ⊢
   refine ⟨_,rfl,by decide,fun nn hnn=>?_⟩
   have s4:Same HD (upd HD nn (.lst [])):=Same.new hnn
   have hLY:=(hLO y hym).same (s38.trans (s3'.trans s4))
   by_cases c:y.ps=[]
   ·refine ⟨y.l,nn,true,rfl,rfl,DT.lstT (xs:=[]) (ys:=[]) (by have:=hLY.l; rw [c] at this; exact SqL.of this) SqL.new rfl (fun i x y hx=>by simp at hx),_,rfl,iteF ?_⟩
    have ez:y.zs=[]:=by
     have:=hLY.t.len
     rw [c] at this
     exact List.length_eq_zero_iff.mp this.symm
    refine ⟨ts ++ [t],_,_,s3'.trans s4,s4 _ _ hx3,?_,by rw [List.length_append,hl2]; rfl,rfl⟩
    rw [et]
    have:lastN hs y=(y.pl,0):=by unfold lastN; rw [ez]; rfl
    rw [this]
    exact hp3.same s4
   ·refine ⟨y.l,nn,false,rfl,rfl,DT.len (SqL.of hLY.l) SqL.new (by rw [List.length_map]; exact fun e=>c (List.length_eq_zero_iff.mp e)),_,rfl,iteT ?_⟩
    obtain ⟨ps0,q0,x,y1,y2,y3,y4,y5⟩:=last_of_line hLY c
    have hyl:=SqL.of (K:=K) hLY.l
    rw [y1,List.map_append] at hyl
    have hdD:=((s2x.trans (s57.trans s8')).trans (s3'.trans s4)) _ _ hd2
    have g:DGet (upd HD nn (.lst [])) d (.ref q0.1) (some (.ref x.2.a)):=by
     rw [← val_done ndA y3]
     exact DGet.t (k:=pk x.1) hdD y2
    have hxd:=(all_in hP3 y3).same (s38.trans (s3'.trans s4))
    refine ⟨_,rfl,_,rfl,_,rfl,1,rfl,y.l,_,_,_,rfl,rfl,hyl,at_lastV _ _,d,_,rfl,g,2,rfl,x.2.a,_,_,_,rfl,rfl,hxd.t,number_at' y4,(by show 2≤sizeLine; decide),fun t2 ht2=>?_⟩
    have s5':Same (upd HD nn (.lst [])) (upd (upd HD nn (.lst [])) t2 (.tup [.str y.pl,.int (numOf x.2.d)])):=Same.new ht2
    have hx5:=(s4.trans s5') _ _ hx3
    refine ⟨_,rfl,1,rfl,due,_,_,ts.length,rfl,rfl,hx5,(by rw [List.length_map,List.length_append]; exact ix_last _),?_⟩
    have ea2:((ts ++ [t]).map V.ref).set ts.length (V.ref t2)=(ts ++ [t2]).map V.ref:=by
     have:=set_snoc (ts.map V.ref) (V.ref t) (V.ref t2)
     rw [List.length_map] at this
     rw [List.map_append,List.map_append]
     exact this
    rw [ea2]
    refine ⟨ts ++ [t2],_,_,Same.at hdue (s3'.trans (s4.trans s5')),upd_same,?_,by rw [List.length_append,hl2]; rfl,rfl⟩
    rw [et]
    refine (((hp4.same (s4.trans s5')).snoc ?_)).lset hx5
    show _=some (HO.tup [.str y.pl,.int (numAt hs y.zs.getLast?)])
    rw [y5]
    exact upd_same
  ·rintro σ H' ⟨ts,v,v',s,hx,hp,hl2,rfl⟩
   rw [List.length_map,List.take_of_length_le (Nat.le_refl _)] at hp
   have el:ls'.map (lastN hs')=ls.map (lastN hs):=hc9.last eh
   rw [el] at o5
   have s6':=s68.trans s
   refine hN _ _ ?_
   refine ⟨_,rfl,r,_,_,_,rfl,rfl,s.seqT (s8'.seqT h1),atI_nat (j:=1) rfl,_,rfl,tb,due,bs,ts,_,rfl,SqT.of (s6' _ _ o4),SqL.of hx,o5.same s6',hp,fun H9 s9=>q H9 ?_⟩
   exact s03.trans (s57.trans (s8'.trans (s.trans s9)))
end
end Own
--#dictT
set_option Elab.async false
set_option linter.all false
set_option maxRecDepth 100000
set_option maxHeartbeats 4100000
namespace Own
open PySem L2
inductive Sp_law (K:PySem.W.Frag) (vs:List V) (H:Hp) (Q:VK) (E_:XK):Prop
 | mk (a:Addr) (ns:List Int) (h0_:vs=[.ref a]) (h1_:SqL K H a (ns.map V.int)) (h2_:ns.length≤63) (h3_:(∀ i∈ns,Fair i)) (h4_:∀ H',Q (.bl true) H'):Sp_law K vs H Q E_
noncomputable def sp_law (K:PySem.W.Frag):Sp:=Sp_law K
inductive LI (H5:Hp) (a p:Addr) (σ:St) (H':Hp):Prop
 | mk (v:Option V) (h0_:Same H5 H') (h1_:σ=[some (.ref a),some (.ref p),v]):LI H5 a p σ H'
section
variable {P:Program} {w:World} {K:PySem.W.Frag} {mg:Str→Option Value} {base:Heap}
theorem sc_law:FnScope ["_law_script","_law_made","_law_turn"] ["_law_script"] (defScope s_law):=⟨rfl,rfl,rfl,by decide +kernel,rfl,by decide +kernel,by decide +kernel⟩
theorem ok_law {f:Addr} {fd:FuncData} (F:Fun K "law" "law" s_law f fd) (T:Txt K mg) (h_Lprogram:Has P w K mg base 3 "_law_program" ["_law_script","_law_names_here"] (sp_Lprogram K)) (h_Lnames:Has P w K mg base 1 "_law_names" ["_law_cell"] (sp_Lnames K)) (h_Ltold:Has P w K mg base 9 "_law_told" ["_law_made","_law_script","_law_turn"] (sp_Ltold K)) (h_Lcellat:Has P w K mg base 1 "_law_cell_at" ["_law_script","_law_k"] (sp_Lcellat K)):FnOk P w K mg base CX0 10 f fd ["_law_script"] (sp_law K):=by
 refine F.ok (k:=9) sc_law (fun vs H Q E h=>?_) (fun cdv A outer s H vs Q E hr h=>?_)
 ·obtain ⟨a,ns,rfl,_⟩:=h
  rfl
 ·obtain ⟨a,ns,rfl,hS,hn,hfair,q⟩:=h
  refine ⟨_,(pss_cons (ps_set (i:=1) sc_law.nd rfl (Or.inl rfl) (pe_fn h_Lprogram (hr.mono (by decide)) (pa_cons (pv 0) (pa_cons (pe_fn h_Lnames (hr.mono (by decide)) (pa_cons (pe_op op_mod (pe_fn h_Lcellat (hr.mono (by decide)) (pa_cons (pv 0) (pa_cons pe_int pa_nil))) pe_int) pa_nil)) pa_nil))))
   (pss_cons (ps_for PassesOwn.never rfl (pi_list (pe_lst (pa_cons pe_int (pa_cons pe_int (pa_cons pe_int pa_nil))))) (pg_name (i:=2) sc_law.nd rfl (Or.inl rfl))
   (pss_one (ps_if (pt_not (pt_val (pe_fn h_Ltold (hr.mono (by decide)) (pa_cons (pv 1) (pa_cons (pv 0) (pa_cons (pv 2) pa_nil))))))
   (pss_one (ps_ret pe_bl))
   pss_nil)))
   (pss_one (ps_ret pe_bl)))),?_⟩
  try dsimp only [nox_K]
  refine ⟨_,rfl,_,rfl,a,ns,1,rfl,hS,by decide,_,_,rfl,rfl,(by show (0:Int) < 2147483647; decide),?_⟩
  refine ⟨_,rfl,Int.emod_nonneg _ (by decide),Int.emod_lt_of_pos _ (by decide),fun nl nm H1 s1 _ hnl hn5=>?_⟩
  refine ⟨a,nl,ns,nm,rfl,s1.seq hS,hn,hfair,hnl,hn5,fun p hs S C H2 s2 _ hP G h0 htot=>?_⟩
  have s02:=s1.trans s2
  refine ⟨by decide,fun tl htl=>?_⟩
  have sl0:Same H2 (upd H2 tl (.lst [V.int 0,V.int 1,V.int 0])):=Same.new htl
  have htl2:(upd H2 tl (.lst [V.int 0,V.int 1,V.int 0])) tl=some (.lst [V.int 0,V.int 1,V.int 0]):=upd_same
  generalize upd H2 tl (.lst [V.int 0,V.int 1,V.int 0])=H3 at sl0 htl2 ⊢
  refine ⟨tl,rfl,⟨_,SqL.of htl2⟩,for_list (xs:=[V.int 0,V.int 1,V.int 0]) (fun _=>LI H3 a p) ?_ ?_ ?_ ?_⟩
  ·exact ⟨none,Same.refl _,rfl⟩
  ·rintro j σ H' _ ⟨v,s,rfl⟩
   exact SqL.of (s _ _ htl2)
  ·rintro j y σ H' hy ⟨v,s,rfl⟩
   obtain ⟨tn,rfl,t0,t1⟩:∃ tn:Int,y=.int tn∧0≤tn∧tn≤1:=by
    match j,hy with
    | 0,hy=>simp at hy; exact ⟨0,hy.symm,by decide,by decide⟩
    | 1,hy=>simp at hy; exact ⟨1,hy.symm,by decide,by decide⟩
    | 2,hy=>simp at hy; exact ⟨0,hy.symm,by decide,by decide⟩
    | j + 3,hy=>simp at hy
   have sx:=sl0.trans s
   exact ⟨_,rfl,_,rfl,_,rfl,p,a,ns,tn,hs,S,C,rfl,hP.same sx,G,htot,(s02.trans sx).seq hS,t0,t1,fun H4 s4=>⟨_,rfl,iteF ⟨_,s.trans s4,rfl⟩⟩⟩
  ·rintro σ H' ⟨v,s,rfl⟩
   exact q H'
end
end Own
--#dictT
--#zhead
--#pwx
--#shared 40
set_option Elab.async false
set_option linter.all false
set_option maxRecDepth 100000
set_option maxHeartbeats 4100000
namespace Own
open PySem L2
theorem len_1 {Pp:List Value→Prop} (h:∀ v0:Value,Pp [v0]) (us:List Value) (hl:us.length=1):Pp us:=by
 rcases us with _ | ⟨v0,_ | ⟨y,ys⟩⟩
 ·simp at hl
 ·exact h v0
 ·simp at hl
theorem len_2 {Pp:List Value→Prop} (h:∀ v0 v1:Value,Pp [v0,v1]) (us:List Value) (hl:us.length=2):Pp us:=by
 rcases us with _ | ⟨v0,_ | ⟨v1,_ | ⟨y,ys⟩⟩⟩
 ·simp at hl
 ·simp at hl
 ·exact h v0 v1
 ·simp at hl
theorem len_3 {Pp:List Value→Prop} (h:∀ v0 v1 v2:Value,Pp [v0,v1,v2]) (us:List Value) (hl:us.length=3):Pp us:=by
 rcases us with _ | ⟨v0,_ | ⟨v1,_ | ⟨v2,_ | ⟨y,ys⟩⟩⟩⟩
 ·simp at hl
 ·simp at hl
 ·simp at hl
 ·exact h v0 v1 v2
 ·simp at hl
theorem len_4 {Pp:List Value→Prop} (h:∀ v0 v1 v2 v3:Value,Pp [v0,v1,v2,v3]) (us:List Value) (hl:us.length=4):Pp us:=by
 rcases us with _ | ⟨v0,_ | ⟨v1,_ | ⟨v2,_ | ⟨v3,_ | ⟨y,ys⟩⟩⟩⟩⟩
 ·simp at hl
 ·simp at hl
 ·simp at hl
 ·simp at hl
 ·exact h v0 v1 v2 v3
 ·simp at hl
theorem len_5 {Pp:List Value→Prop} (h:∀ v0 v1 v2 v3 v4:Value,Pp [v0,v1,v2,v3,v4]) (us:List Value) (hl:us.length=5):Pp us:=by
 rcases us with _ | ⟨v0,_ | ⟨v1,_ | ⟨v2,_ | ⟨v3,_ | ⟨v4,_ | ⟨y,ys⟩⟩⟩⟩⟩⟩
 ·simp at hl
 ·simp at hl
 ·simp at hl
 ·simp at hl
 ·simp at hl
 ·exact h v0 v1 v2 v3 v4
 ·simp at hl
theorem all_mk {l:PySem.W.OpenLaw} {w:World} {K:PySem.W.Frag} {h:Heap} {mg:Str→Option Value} {fa:Addr} (X:K.In h) (G:h.Ns mainGlobals mg) (hfa:mg "law"=some (.ref fa))
  {f0 f1 f2 f3 f4 f5 f6 f7 f8 f9 f10 f11 f12 f13 f14 f15 f16 f17 f18 f19 f20 f21 f22 f23 f24 f25 f26 f27 f28 f29 f30 f31 f32 f33 f34 f35 f36 f37 f38 f39 f40 f41 f42 f43 f44 f45:Addr} {od0 an0 od1 an1 od2 an2 od3 an3 od4 an4 od5 an5 od6 an6 od7 an7 od8 an8 od9 an9 od10 an10 od11 an11 od12 an12 od13 an13 od14 an14 od15 an15 od16 an16 od17 an17 od18 an18 od19 an19 od20 an20 od21 an21 od22 an22 od23 an23 od24 an24 od25 an25 od26 an26 od27 an27 od28 an28 od29 an29 od30 an30 od31 an31 od32 an32 od33 an33 od34 an34 od35 an35 od36 an36 od37 an37 od38 an38 od39 an39 od40 an40 od41 an41 od42 an42 od43 an43 od44 an44 od45 an45:Option Addr} {sl0 sl1 sl2 sl3 sl4 sl5 sl6 sl7 sl8 sl9 sl10 sl11 sl12 sl13 sl14 sl15 sl16 sl17 sl18 sl19 sl20 sl21 sl22 sl23 sl24 sl25 sl26 sl27 sl28 sl29 sl30 sl31 sl32 sl33 sl34 sl35 sl36 sl37 sl38 sl39 sl40 sl41 sl42 sl43 sl44 sl45:Array (Option Value)} {oc0 kV0 dc0 pm0 cd0 ct0 oc1 kV1 dc1 pm1 cd1 ct1 oc2 kV2 dc2 pm2 cd2 ct2 oc3 kV3 dc3 pm3 cd3 ct3 oc4 kV4 dc4 pm4 cd4 ct4 oc5 kV5 dc5 pm5 cd5 ct5 oc6 kV6 dc6 pm6 cd6 ct6 oc7 kV7 dc7 pm7 cd7 ct7 oc8 kV8 dc8 pm8 cd8 ct8 oc9 kV9 dc9 pm9 cd9 ct9 oc10 kV10 dc10 pm10 cd10 ct10 oc11 kV11 dc11 pm11 cd11 ct11 oc12 kV12 dc12 pm12 cd12 ct12 oc13 kV13 dc13 pm13 cd13 ct13 oc14 kV14 dc14 pm14 cd14 ct14 oc15 kV15 dc15 pm15 cd15 ct15 oc16 kV16 dc16 pm16 cd16 ct16 oc17 kV17 dc17 pm17 cd17 ct17 oc18 kV18 dc18 pm18 cd18 ct18 oc19 kV19 dc19 pm19 cd19 ct19 oc20 kV20 dc20 pm20 cd20 ct20 oc21 kV21 dc21 pm21 cd21 ct21 oc22 kV22 dc22 pm22 cd22 ct22 oc23 kV23 dc23 pm23 cd23 ct23 oc24 kV24 dc24 pm24 cd24 ct24 oc25 kV25 dc25 pm25 cd25 ct25 oc26 kV26 dc26 pm26 cd26 ct26 oc27 kV27 dc27 pm27 cd27 ct27 oc28 kV28 dc28 pm28 cd28 ct28 oc29 kV29 dc29 pm29 cd29 ct29 oc30 kV30 dc30 pm30 cd30 ct30 oc31 kV31 dc31 pm31 cd31 ct31 oc32 kV32 dc32 pm32 cd32 ct32 oc33 kV33 dc33 pm33 cd33 ct33 oc34 kV34 dc34 pm34 cd34 ct34 oc35 kV35 dc35 pm35 cd35 ct35 oc36 kV36 dc36 pm36 cd36 ct36 oc37 kV37 dc37 pm37 cd37 ct37 oc38 kV38 dc38 pm38 cd38 ct38 oc39 kV39 dc39 pm39 cd39 ct39 oc40 kV40 dc40 pm40 cd40 ct40 oc41 kV41 dc41 pm41 cd41 ct41 oc42 kV42 dc42 pm42 cd42 ct42 oc43 kV43 dc43 pm43 cd43 ct43 oc44 kV44 dc44 pm44 cd44 ct44 oc45 kV45 dc45 pm45 cd45 ct45:Value}
  {C_Walk:Addr}
  (aC_Walk:PySem.W.nsIn K mainGlobals "Walk"=some (some (.ref C_Walk))) (pg_Walk:PySem.W.plainGet K C_Walk Str.empty=true) (hd_Walk:PySem.W.hasDictIn K C_Walk=true) (po_Walk:PySem.W.plainOver K C_Walk=true) (sa_Walk:PySem.W.findIn K (.ref C_Walk) "__setattr__"=some (some (.builtin "object.__setattr__"))) (mk_Walk:PySem.W.makesIn K C_Walk=true) (kc_Walk:PySem.W.keepIn K (.ref C_Walk)=true)
  (nA_Walk_done:PySem.W.findIn K (.ref C_Walk) "done"=some none)
  (nA_Walk_stops:PySem.W.findIn K (.ref C_Walk) "stops"=some none)
  (nA_Walk_filled:PySem.W.findIn K (.ref C_Walk) "filled"=some none)
  (a0:PySem.W.nsIn K mainGlobals "is_read"=some (some (.ref f0))) (l0:K.lookup f0=some ⟨oc0,od0,.func (PySem.W.fnOf "is_read" "is_read" (defArgs s_isread) (defBody s_isread) (defScope s_isread) .none kV0 dc0 pm0 an0 cd0 ct0),sl0⟩) (c0:PySem.W.codeIn K cd0 "is_read"=true) (k0:PySem.W.keepIn K (.ref f0)=true)
  (a1:PySem.W.nsIn K mainGlobals "place_of"=some (some (.ref f1))) (l1:K.lookup f1=some ⟨oc1,od1,.func (PySem.W.fnOf "place_of" "place_of" (defArgs s_placeof) (defBody s_placeof) (defScope s_placeof) .none kV1 dc1 pm1 an1 cd1 ct1),sl1⟩) (c1:PySem.W.codeIn K cd1 "place_of"=true) (k1:PySem.W.keepIn K (.ref f1)=true)
  (a2:PySem.W.nsIn K mainGlobals "is_write"=some (some (.ref f2))) (l2:K.lookup f2=some ⟨oc2,od2,.func (PySem.W.fnOf "is_write" "is_write" (defArgs s_iswrite) (defBody s_iswrite) (defScope s_iswrite) .none kV2 dc2 pm2 an2 cd2 ct2),sl2⟩) (c2:PySem.W.codeIn K cd2 "is_write"=true) (k2:PySem.W.keepIn K (.ref f2)=true)
  (a3:PySem.W.nsIn K mainGlobals "number_of"=some (some (.ref f3))) (l3:K.lookup f3=some ⟨oc3,od3,.func (PySem.W.fnOf "number_of" "number_of" (defArgs s_numberof) (defBody s_numberof) (defScope s_numberof) .none kV3 dc3 pm3 an3 cd3 ct3),sl3⟩) (c3:PySem.W.codeIn K cd3 "number_of"=true) (k3:PySem.W.keepIn K (.ref f3)=true)
  (a4:PySem.W.nsIn K mainGlobals "cup_of"=some (some (.ref f4))) (l4:K.lookup f4=some ⟨oc4,od4,.func (PySem.W.fnOf "cup_of" "cup_of" (defArgs s_cupof) (defBody s_cupof) (defScope s_cupof) .none kV4 dc4 pm4 an4 cd4 ct4),sl4⟩) (c4:PySem.W.codeIn K cd4 "cup_of"=true) (k4:PySem.W.keepIn K (.ref f4)=true)
  (a5:PySem.W.nsIn K mainGlobals "guard_of"=some (some (.ref f5))) (l5:K.lookup f5=some ⟨oc5,od5,.func (PySem.W.fnOf "guard_of" "guard_of" (defArgs s_guardof) (defBody s_guardof) (defScope s_guardof) .none kV5 dc5 pm5 an5 cd5 ct5),sl5⟩) (c5:PySem.W.codeIn K cd5 "guard_of"=true) (k5:PySem.W.keepIn K (.ref f5)=true)
  (a6:PySem.W.nsIn K mainGlobals "holds"=some (some (.ref f6))) (l6:K.lookup f6=some ⟨oc6,od6,.func (PySem.W.fnOf "holds" "holds" (defArgs s_holds) (defBody s_holds) (defScope s_holds) .none kV6 dc6 pm6 an6 cd6 ct6),sl6⟩) (c6:PySem.W.codeIn K cd6 "holds"=true) (k6:PySem.W.keepIn K (.ref f6)=true)
  (a7:PySem.W.nsIn K mainGlobals "point_deeds"=some (some (.ref f7))) (l7:K.lookup f7=some ⟨oc7,od7,.func (PySem.W.fnOf "point_deeds" "point_deeds" (defArgs s_pointdeeds) (defBody s_pointdeeds) (defScope s_pointdeeds) .none kV7 dc7 pm7 an7 cd7 ct7),sl7⟩) (c7:PySem.W.codeIn K cd7 "point_deeds"=true) (k7:PySem.W.keepIn K (.ref f7)=true)
  (a8:PySem.W.nsIn K mainGlobals "numbered"=some (some (.ref f8))) (l8:K.lookup f8=some ⟨oc8,od8,.func (PySem.W.fnOf "numbered" "numbered" (defArgs s_numbered) (defBody s_numbered) (defScope s_numbered) .none kV8 dc8 pm8 an8 cd8 ct8),sl8⟩) (c8:PySem.W.codeIn K cd8 "numbered"=true) (k8:PySem.W.keepIn K (.ref f8)=true)
  (a9:PySem.W.nsIn K mainGlobals "deed_at"=some (some (.ref f9))) (l9:K.lookup f9=some ⟨oc9,od9,.func (PySem.W.fnOf "deed_at" "deed_at" (defArgs s_deedat) (defBody s_deedat) (defScope s_deedat) .none kV9 dc9 pm9 an9 cd9 ct9),sl9⟩) (c9:PySem.W.codeIn K cd9 "deed_at"=true) (k9:PySem.W.keepIn K (.ref f9)=true)
  (a10:PySem.W.nsIn K mainGlobals "number_at"=some (some (.ref f10))) (l10:K.lookup f10=some ⟨oc10,od10,.func (PySem.W.fnOf "number_at" "number_at" (defArgs s_numberat) (defBody s_numberat) (defScope s_numberat) .none kV10 dc10 pm10 an10 cd10 ct10),sl10⟩) (c10:PySem.W.codeIn K cd10 "number_at"=true) (k10:PySem.W.keepIn K (.ref f10)=true)
  (a11:PySem.W.nsIn K mainGlobals "places"=some (some (.ref f11))) (l11:K.lookup f11=some ⟨oc11,od11,.func (PySem.W.fnOf "places" "places" (defArgs s_places) (defBody s_places) (defScope s_places) .none kV11 dc11 pm11 an11 cd11 ct11),sl11⟩) (c11:PySem.W.codeIn K cd11 "places"=true) (k11:PySem.W.keepIn K (.ref f11)=true)
  (a12:PySem.W.nsIn K mainGlobals "cups"=some (some (.ref f12))) (l12:K.lookup f12=some ⟨oc12,od12,.func (PySem.W.fnOf "cups" "cups" (defArgs s_cups) (defBody s_cups) (defScope s_cups) .none kV12 dc12 pm12 an12 cd12 ct12),sl12⟩) (c12:PySem.W.codeIn K cd12 "cups"=true) (k12:PySem.W.keepIn K (.ref f12)=true)
  (a13:PySem.W.findIn K (.ref C_Walk) "__init__"=some (some (.ref f13))) (i13:PySem.W.isFn K (.ref f13)=true) (l13:K.lookup f13=some ⟨oc13,od13,.func (PySem.W.fnOf "__init__" "Walk.__init__" (defArgs s_Walkinit) (defBody s_Walkinit) (defScope s_Walkinit) .none kV13 dc13 pm13 an13 cd13 ct13),sl13⟩) (c13:PySem.W.codeIn K cd13 "Walk.__init__"=true) (k13:PySem.W.keepIn K (.ref f13)=true)
  (a14:PySem.W.nsIn K mainGlobals "writes"=some (some (.ref f14))) (l14:K.lookup f14=some ⟨oc14,od14,.func (PySem.W.fnOf "writes" "writes" (defArgs s_writes) (defBody s_writes) (defScope s_writes) .none kV14 dc14 pm14 an14 cd14 ct14),sl14⟩) (c14:PySem.W.codeIn K cd14 "writes"=true) (k14:PySem.W.keepIn K (.ref f14)=true)
  (a15:PySem.W.nsIn K mainGlobals "number_read"=some (some (.ref f15))) (l15:K.lookup f15=some ⟨oc15,od15,.func (PySem.W.fnOf "number_read" "number_read" (defArgs s_numberread) (defBody s_numberread) (defScope s_numberread) .none kV15 dc15 pm15 an15 cd15 ct15),sl15⟩) (c15:PySem.W.codeIn K cd15 "number_read"=true) (k15:PySem.W.keepIn K (.ref f15)=true)
  (a16:PySem.W.nsIn K mainGlobals "walk_by"=some (some (.ref f16))) (l16:K.lookup f16=some ⟨oc16,od16,.func (PySem.W.fnOf "walk_by" "walk_by" (defArgs s_walkby) (defBody s_walkby) (defScope s_walkby) .none kV16 dc16 pm16 an16 cd16 ct16),sl16⟩) (c16:PySem.W.codeIn K cd16 "walk_by"=true) (k16:PySem.W.keepIn K (.ref f16)=true)
  (a17:PySem.W.nsIn K mainGlobals "writers_to"=some (some (.ref f17))) (l17:K.lookup f17=some ⟨oc17,od17,.func (PySem.W.fnOf "writers_to" "writers_to" (defArgs s_writersto) (defBody s_writersto) (defScope s_writersto) .none kV17 dc17 pm17 an17 cd17 ct17),sl17⟩) (c17:PySem.W.codeIn K cd17 "writers_to"=true) (k17:PySem.W.keepIn K (.ref f17)=true)
  (a18:PySem.W.nsIn K mainGlobals "source_fits"=some (some (.ref f18))) (l18:K.lookup f18=some ⟨oc18,od18,.func (PySem.W.fnOf "source_fits" "source_fits" (defArgs s_sourcefits) (defBody s_sourcefits) (defScope s_sourcefits) .none kV18 dc18 pm18 an18 cd18 ct18),sl18⟩) (c18:PySem.W.codeIn K cd18 "source_fits"=true) (k18:PySem.W.keepIn K (.ref f18)=true)
  (a19:PySem.W.nsIn K mainGlobals "froms_fit"=some (some (.ref f19))) (l19:K.lookup f19=some ⟨oc19,od19,.func (PySem.W.fnOf "froms_fit" "froms_fit" (defArgs s_fromsfit) (defBody s_fromsfit) (defScope s_fromsfit) .none kV19 dc19 pm19 an19 cd19 ct19),sl19⟩) (c19:PySem.W.codeIn K cd19 "froms_fit"=true) (k19:PySem.W.keepIn K (.ref f19)=true)
  (a20:PySem.W.nsIn K mainGlobals "lines_fit"=some (some (.ref f20))) (l20:K.lookup f20=some ⟨oc20,od20,.func (PySem.W.fnOf "lines_fit" "lines_fit" (defArgs s_linesfit) (defBody s_linesfit) (defScope s_linesfit) .none kV20 dc20 pm20 an20 cd20 ct20),sl20⟩) (c20:PySem.W.codeIn K cd20 "lines_fit"=true) (k20:PySem.W.keepIn K (.ref f20)=true)
  (a21:PySem.W.nsIn K mainGlobals "whole_walk"=some (some (.ref f21))) (l21:K.lookup f21=some ⟨oc21,od21,.func (PySem.W.fnOf "whole_walk" "whole_walk" (defArgs s_wholewalk) (defBody s_wholewalk) (defScope s_wholewalk) .none kV21 dc21 pm21 an21 cd21 ct21),sl21⟩) (c21:PySem.W.codeIn K cd21 "whole_walk"=true) (k21:PySem.W.keepIn K (.ref f21)=true)
  (a22:PySem.W.nsIn K mainGlobals "cups_with"=some (some (.ref f22))) (l22:K.lookup f22=some ⟨oc22,od22,.func (PySem.W.fnOf "cups_with" "cups_with" (defArgs s_cupswith) (defBody s_cupswith) (defScope s_cupswith) .none kV22 dc22 pm22 an22 cd22 ct22),sl22⟩) (c22:PySem.W.codeIn K cd22 "cups_with"=true) (k22:PySem.W.keepIn K (.ref f22)=true)
  (a23:PySem.W.nsIn K mainGlobals "last_of"=some (some (.ref f23))) (l23:K.lookup f23=some ⟨oc23,od23,.func (PySem.W.fnOf "last_of" "last_of" (defArgs s_lastof) (defBody s_lastof) (defScope s_lastof) .none kV23 dc23 pm23 an23 cd23 ct23),sl23⟩) (c23:PySem.W.codeIn K cd23 "last_of"=true) (k23:PySem.W.keepIn K (.ref f23)=true)
  (a24:PySem.W.nsIn K mainGlobals "outcome_with"=some (some (.ref f24))) (l24:K.lookup f24=some ⟨oc24,od24,.func (PySem.W.fnOf "outcome_with" "outcome_with" (defArgs s_outcomewith) (defBody s_outcomewith) (defScope s_outcomewith) .none kV24 dc24 pm24 an24 cd24 ct24),sl24⟩) (c24:PySem.W.codeIn K cd24 "outcome_with"=true) (k24:PySem.W.keepIn K (.ref f24)=true)
  (a25:PySem.W.nsIn K mainGlobals "outcome_of"=some (some (.ref f25))) (l25:K.lookup f25=some ⟨oc25,od25,.func (PySem.W.fnOf "outcome_of" "outcome_of" (defArgs s_outcomeof) (defBody s_outcomeof) (defScope s_outcomeof) .none kV25 dc25 pm25 an25 cd25 ct25),sl25⟩) (c25:PySem.W.codeIn K cd25 "outcome_of"=true) (k25:PySem.W.keepIn K (.ref f25)=true)
  (a26:PySem.W.nsIn K mainGlobals "_law_cell_at"=some (some (.ref f26))) (l26:K.lookup f26=some ⟨oc26,od26,.func (PySem.W.fnOf "_law_cell_at" "_law_cell_at" (defArgs s_Lcellat) (defBody s_Lcellat) (defScope s_Lcellat) .none kV26 dc26 pm26 an26 cd26 ct26),sl26⟩) (c26:PySem.W.codeIn K cd26 "_law_cell_at"=true) (k26:PySem.W.keepIn K (.ref f26)=true)
  (a27:PySem.W.nsIn K mainGlobals "_law_mixed"=some (some (.ref f27))) (l27:K.lookup f27=some ⟨oc27,od27,.func (PySem.W.fnOf "_law_mixed" "_law_mixed" (defArgs s_Lmixed) (defBody s_Lmixed) (defScope s_Lmixed) .none kV27 dc27 pm27 an27 cd27 ct27),sl27⟩) (c27:PySem.W.codeIn K cd27 "_law_mixed"=true) (k27:PySem.W.keepIn K (.ref f27)=true)
  (a28:PySem.W.nsIn K mainGlobals "_law_other"=some (some (.ref f28))) (l28:K.lookup f28=some ⟨oc28,od28,.func (PySem.W.fnOf "_law_other" "_law_other" (defArgs s_Lother) (defBody s_Lother) (defScope s_Lother) .none kV28 dc28 pm28 an28 cd28 ct28),sl28⟩) (c28:PySem.W.codeIn K cd28 "_law_other"=true) (k28:PySem.W.keepIn K (.ref f28)=true)
  (a29:PySem.W.nsIn K mainGlobals "_law_third"=some (some (.ref f29))) (l29:K.lookup f29=some ⟨oc29,od29,.func (PySem.W.fnOf "_law_third" "_law_third" (defArgs s_Lthird) (defBody s_Lthird) (defScope s_Lthird) .none kV29 dc29 pm29 an29 cd29 ct29),sl29⟩) (c29:PySem.W.codeIn K cd29 "_law_third"=true) (k29:PySem.W.keepIn K (.ref f29)=true)
  (a30:PySem.W.nsIn K mainGlobals "_law_number"=some (some (.ref f30))) (l30:K.lookup f30=some ⟨oc30,od30,.func (PySem.W.fnOf "_law_number" "_law_number" (defArgs s_Lnumber) (defBody s_Lnumber) (defScope s_Lnumber) .none kV30 dc30 pm30 an30 cd30 ct30),sl30⟩) (c30:PySem.W.codeIn K cd30 "_law_number"=true) (k30:PySem.W.keepIn K (.ref f30)=true)
  (a31:PySem.W.nsIn K mainGlobals "_law_names"=some (some (.ref f31))) (l31:K.lookup f31=some ⟨oc31,od31,.func (PySem.W.fnOf "_law_names" "_law_names" (defArgs s_Lnames) (defBody s_Lnames) (defScope s_Lnames) .none kV31 dc31 pm31 an31 cd31 ct31),sl31⟩) (c31:PySem.W.codeIn K cd31 "_law_names"=true) (k31:PySem.W.keepIn K (.ref f31)=true)
  (a32:PySem.W.nsIn K mainGlobals "_law_size"=some (some (.ref f32))) (l32:K.lookup f32=some ⟨oc32,od32,.func (PySem.W.fnOf "_law_size" "_law_size" (defArgs s_Lsize) (defBody s_Lsize) (defScope s_Lsize) .none kV32 dc32 pm32 an32 cd32 ct32),sl32⟩) (c32:PySem.W.codeIn K cd32 "_law_size"=true) (k32:PySem.W.keepIn K (.ref f32)=true)
  (a33:PySem.W.nsIn K mainGlobals "_law_guard"=some (some (.ref f33))) (l33:K.lookup f33=some ⟨oc33,od33,.func (PySem.W.fnOf "_law_guard" "_law_guard" (defArgs s_Lguard) (defBody s_Lguard) (defScope s_Lguard) .none kV33 dc33 pm33 an33 cd33 ct33),sl33⟩) (c33:PySem.W.codeIn K cd33 "_law_guard"=true) (k33:PySem.W.keepIn K (.ref f33)=true)
  (a34:PySem.W.nsIn K mainGlobals "_law_deed"=some (some (.ref f34))) (l34:K.lookup f34=some ⟨oc34,od34,.func (PySem.W.fnOf "_law_deed" "_law_deed" (defArgs s_Ldeed) (defBody s_Ldeed) (defScope s_Ldeed) .none kV34 dc34 pm34 an34 cd34 ct34),sl34⟩) (c34:PySem.W.codeIn K cd34 "_law_deed"=true) (k34:PySem.W.keepIn K (.ref f34)=true)
  (a35:PySem.W.nsIn K mainGlobals "_law_program"=some (some (.ref f35))) (l35:K.lookup f35=some ⟨oc35,od35,.func (PySem.W.fnOf "_law_program" "_law_program" (defArgs s_Lprogram) (defBody s_Lprogram) (defScope s_Lprogram) .none kV35 dc35 pm35 an35 cd35 ct35),sl35⟩) (c35:PySem.W.codeIn K cd35 "_law_program"=true) (k35:PySem.W.keepIn K (.ref f35)=true)
  (a36:PySem.W.nsIn K mainGlobals "_law_place"=some (some (.ref f36))) (l36:K.lookup f36=some ⟨oc36,od36,.func (PySem.W.fnOf "_law_place" "_law_place" (defArgs s_Lplace) (defBody s_Lplace) (defScope s_Lplace) .none kV36 dc36 pm36 an36 cd36 ct36),sl36⟩) (c36:PySem.W.codeIn K cd36 "_law_place"=true) (k36:PySem.W.keepIn K (.ref f36)=true)
  (a37:PySem.W.nsIn K mainGlobals "_law_deeds"=some (some (.ref f37))) (l37:K.lookup f37=some ⟨oc37,od37,.func (PySem.W.fnOf "_law_deeds" "_law_deeds" (defArgs s_Ldeeds) (defBody s_Ldeeds) (defScope s_Ldeeds) .none kV37 dc37 pm37 an37 cd37 ct37),sl37⟩) (c37:PySem.W.codeIn K cd37 "_law_deeds"=true) (k37:PySem.W.keepIn K (.ref f37)=true)
  (a38:PySem.W.nsIn K mainGlobals "_law_holds"=some (some (.ref f38))) (l38:K.lookup f38=some ⟨oc38,od38,.func (PySem.W.fnOf "_law_holds" "_law_holds" (defArgs s_Lholds) (defBody s_Lholds) (defScope s_Lholds) .none kV38 dc38 pm38 an38 cd38 ct38),sl38⟩) (c38:PySem.W.codeIn K cd38 "_law_holds"=true) (k38:PySem.W.keepIn K (.ref f38)=true)
  (a39:PySem.W.nsIn K mainGlobals "_law_writes"=some (some (.ref f39))) (l39:K.lookup f39=some ⟨oc39,od39,.func (PySem.W.fnOf "_law_writes" "_law_writes" (defArgs s_Lwrites) (defBody s_Lwrites) (defScope s_Lwrites) .none kV39 dc39 pm39 an39 cd39 ct39),sl39⟩) (c39:PySem.W.codeIn K cd39 "_law_writes"=true) (k39:PySem.W.keepIn K (.ref f39)=true)
  (a40:PySem.W.nsIn K mainGlobals "_law_named"=some (some (.ref f40))) (l40:K.lookup f40=some ⟨oc40,od40,.func (PySem.W.fnOf "_law_named" "_law_named" (defArgs s_Lnamed) (defBody s_Lnamed) (defScope s_Lnamed) .none kV40 dc40 pm40 an40 cd40 ct40),sl40⟩) (c40:PySem.W.codeIn K cd40 "_law_named"=true) (k40:PySem.W.keepIn K (.ref f40)=true)
  (a41:PySem.W.nsIn K mainGlobals "_law_gone"=some (some (.ref f41))) (l41:K.lookup f41=some ⟨oc41,od41,.func (PySem.W.fnOf "_law_gone" "_law_gone" (defArgs s_Lgone) (defBody s_Lgone) (defScope s_Lgone) .none kV41 dc41 pm41 an41 cd41 ct41),sl41⟩) (c41:PySem.W.codeIn K cd41 "_law_gone"=true) (k41:PySem.W.keepIn K (.ref f41)=true)
  (a42:PySem.W.nsIn K mainGlobals "_law_lines"=some (some (.ref f42))) (l42:K.lookup f42=some ⟨oc42,od42,.func (PySem.W.fnOf "_law_lines" "_law_lines" (defArgs s_Llines) (defBody s_Llines) (defScope s_Llines) .none kV42 dc42 pm42 an42 cd42 ct42),sl42⟩) (c42:PySem.W.codeIn K cd42 "_law_lines"=true) (k42:PySem.W.keepIn K (.ref f42)=true)
  (a43:PySem.W.nsIn K mainGlobals "_law_pairs"=some (some (.ref f43))) (l43:K.lookup f43=some ⟨oc43,od43,.func (PySem.W.fnOf "_law_pairs" "_law_pairs" (defArgs s_Lpairs) (defBody s_Lpairs) (defScope s_Lpairs) .none kV43 dc43 pm43 an43 cd43 ct43),sl43⟩) (c43:PySem.W.codeIn K cd43 "_law_pairs"=true) (k43:PySem.W.keepIn K (.ref f43)=true)
  (a44:PySem.W.nsIn K mainGlobals "_law_told"=some (some (.ref f44))) (l44:K.lookup f44=some ⟨oc44,od44,.func (PySem.W.fnOf "_law_told" "_law_told" (defArgs s_Ltold) (defBody s_Ltold) (defScope s_Ltold) .none kV44 dc44 pm44 an44 cd44 ct44),sl44⟩) (c44:PySem.W.codeIn K cd44 "_law_told"=true) (k44:PySem.W.keepIn K (.ref f44)=true)
  (a45:PySem.W.nsIn K mainGlobals "law"=some (some (.ref f45))) (l45:K.lookup f45=some ⟨oc45,od45,.func (PySem.W.fnOf "law" "law" (defArgs s_law) (defBody s_law) (defScope s_law) .none kV45 dc45 pm45 an45 cd45 ct45),sl45⟩) (c45:PySem.W.codeIn K cd45 "law"=true) (k45:PySem.W.keepIn K (.ref f45)=true)
  (z_all:PySem.W.nsIn K mainGlobals "all"=some none) (z_bool:PySem.W.nsIn K mainGlobals "bool"=some none) (z_dict:PySem.W.nsIn K mainGlobals "dict"=some none) (z_enumerate:PySem.W.nsIn K mainGlobals "enumerate"=some none) (z_int:PySem.W.nsIn K mainGlobals "int"=some none) (z_isinstance:PySem.W.nsIn K mainGlobals "isinstance"=some none) (z_len:PySem.W.nsIn K mainGlobals "len"=some none) (z_list:PySem.W.nsIn K mainGlobals "list"=some none) (z_max:PySem.W.nsIn K mainGlobals "max"=some none) (z_min:PySem.W.nsIn K mainGlobals "min"=some none) (z_range:PySem.W.nsIn K mainGlobals "range"=some none) (z_set:PySem.W.nsIn K mainGlobals "set"=some none) (z_sorted:PySem.W.nsIn K mainGlobals "sorted"=some none) (z_str:PySem.W.nsIn K mainGlobals "str"=some none) (z_tuple:PySem.W.nsIn K mainGlobals "tuple"=some none) (z_zip:PySem.W.nsIn K mainGlobals "zip"=some none)   :
  ∃ fd:FuncData,(∀ (s:Shared) (v:Value),BindsTo s fd ⟨[v],[]⟩ [("_law_script",v)])∧∀ base:Heap,K.In base→base.Ns mainGlobals mg→FnOk l.prog w K mg base CX0 10 fa fd ["_law_script"] (sp_law K):=by
 have e:=hfa.symm.trans (PySem.W.mg_of X G a45)
 cases e
 have T:Txt K mg:=⟨PySem.W.mg_none_of X G z_all,PySem.W.mg_none_of X G z_bool,PySem.W.mg_none_of X G z_dict,PySem.W.mg_none_of X G z_enumerate,PySem.W.mg_none_of X G z_int,PySem.W.mg_none_of X G z_isinstance,PySem.W.mg_none_of X G z_len,PySem.W.mg_none_of X G z_list,PySem.W.mg_none_of X G z_max,PySem.W.mg_none_of X G z_min,PySem.W.mg_none_of X G z_range,PySem.W.mg_none_of X G z_set,PySem.W.mg_none_of X G z_sorted,PySem.W.mg_none_of X G z_str,PySem.W.mg_none_of X G z_tuple,PySem.W.mg_none_of X G z_zip,by rw [cA_of aC_Walk]; exact PySem.W.mg_of X G aC_Walk,by rw [cA_of aC_Walk]; exact ⟨pg_Walk,hd_Walk,po_Walk,sa_Walk⟩,by rw [cA_of aC_Walk]; exact nA_Walk_done,by rw [cA_of aC_Walk]; exact nA_Walk_stops,by rw [cA_of aC_Walk]; exact nA_Walk_filled⟩
 have F0:=fun_mk (st:=s_isread) l0 c0 k0
 have b0:=F0.binds (ps:=["deed"]) fun _ _ _ _ _ _ us hl=>len_1 (Pp:=fun us=>bindArgs _ ⟨us,[]⟩=pure (List.zip _ us)) (fun _=>rfl) us hl
 have F1:=fun_mk (st:=s_placeof) l1 c1 k1
 have b1:=F1.binds (ps:=["deed"]) fun _ _ _ _ _ _ us hl=>len_1 (Pp:=fun us=>bindArgs _ ⟨us,[]⟩=pure (List.zip _ us)) (fun _=>rfl) us hl
 have F2:=fun_mk (st:=s_iswrite) l2 c2 k2
 have b2:=F2.binds (ps:=["deed"]) fun _ _ _ _ _ _ us hl=>len_1 (Pp:=fun us=>bindArgs _ ⟨us,[]⟩=pure (List.zip _ us)) (fun _=>rfl) us hl
 have F3:=fun_mk (st:=s_numberof) l3 c3 k3
 have b3:=F3.binds (ps:=["deed"]) fun _ _ _ _ _ _ us hl=>len_1 (Pp:=fun us=>bindArgs _ ⟨us,[]⟩=pure (List.zip _ us)) (fun _=>rfl) us hl
 have F4:=fun_mk (st:=s_cupof) l4 c4 k4
 have b4:=F4.binds (ps:=["deed"]) fun _ _ _ _ _ _ us hl=>len_1 (Pp:=fun us=>bindArgs _ ⟨us,[]⟩=pure (List.zip _ us)) (fun _=>rfl) us hl
 have F5:=fun_mk (st:=s_guardof) l5 c5 k5
 have b5:=F5.binds (ps:=["deed"]) fun _ _ _ _ _ _ us hl=>len_1 (Pp:=fun us=>bindArgs _ ⟨us,[]⟩=pure (List.zip _ us)) (fun _=>rfl) us hl
 have F6:=fun_mk (st:=s_holds) l6 c6 k6
 have b6:=F6.binds (ps:=["guard","cups"]) fun _ _ _ _ _ _ us hl=>len_2 (Pp:=fun us=>bindArgs _ ⟨us,[]⟩=pure (List.zip _ us)) (fun _ _=>rfl) us hl
 have F7:=fun_mk (st:=s_pointdeeds) l7 c7 k7
 have b7:=F7.binds (ps:=["hand"]) fun _ _ _ _ _ _ us hl=>len_1 (Pp:=fun us=>bindArgs _ ⟨us,[]⟩=pure (List.zip _ us)) (fun _=>rfl) us hl
 have F8:=fun_mk (st:=s_numbered) l8 c8 k8
 have b8:=F8.binds (ps:=["hand"]) fun _ _ _ _ _ _ us hl=>len_1 (Pp:=fun us=>bindArgs _ ⟨us,[]⟩=pure (List.zip _ us)) (fun _=>rfl) us hl
 have F9:=fun_mk (st:=s_deedat) l9 c9 k9
 have b9:=F9.binds (ps:=["program","point"]) fun _ _ _ _ _ _ us hl=>len_2 (Pp:=fun us=>bindArgs _ ⟨us,[]⟩=pure (List.zip _ us)) (fun _ _=>rfl) us hl
 have F10:=fun_mk (st:=s_numberat) l10 c10 k10
 have b10:=F10.binds (ps:=["program","source"]) fun _ _ _ _ _ _ us hl=>len_2 (Pp:=fun us=>bindArgs _ ⟨us,[]⟩=pure (List.zip _ us)) (fun _ _=>rfl) us hl
 have F11:=fun_mk (st:=s_places) l11 c11 k11
 have b11:=F11.binds (ps:=["program"]) fun _ _ _ _ _ _ us hl=>len_1 (Pp:=fun us=>bindArgs _ ⟨us,[]⟩=pure (List.zip _ us)) (fun _=>rfl) us hl
 have F12:=fun_mk (st:=s_cups) l12 c12 k12
 have b12:=F12.binds (ps:=["program","h"]) fun _ _ _ _ _ _ us hl=>len_2 (Pp:=fun us=>bindArgs _ ⟨us,[]⟩=pure (List.zip _ us)) (fun _ _=>rfl) us hl
 have F13:=fun_mk (st:=s_Walkinit) l13 c13 k13
 have b13:=F13.binds (ps:=["self"]) fun _ _ _ _ _ _ us hl=>len_1 (Pp:=fun us=>bindArgs _ ⟨us,[]⟩=pure (List.zip _ us)) (fun _=>rfl) us hl
 have F14:=fun_mk (st:=s_writes) l14 c14 k14
 have b14:=F14.binds (ps:=["program","point"]) fun _ _ _ _ _ _ us hl=>len_2 (Pp:=fun us=>bindArgs _ ⟨us,[]⟩=pure (List.zip _ us)) (fun _ _=>rfl) us hl
 have F15:=fun_mk (st:=s_numberread) l15 c15 k15
 have b15:=F15.binds (ps:=["program","sources","reader"]) fun _ _ _ _ _ _ us hl=>len_3 (Pp:=fun us=>bindArgs _ ⟨us,[]⟩=pure (List.zip _ us)) (fun _ _ _=>rfl) us hl
 have F16:=fun_mk (st:=s_walkby) l16 c16 k16
 have b16:=F16.binds (ps:=["program","sources"]) fun _ _ _ _ _ _ us hl=>len_2 (Pp:=fun us=>bindArgs _ ⟨us,[]⟩=pure (List.zip _ us)) (fun _ _=>rfl) us hl
 have F17:=fun_mk (st:=s_writersto) l17 c17 k17
 have b17:=F17.binds (ps:=["done","place"]) fun _ _ _ _ _ _ us hl=>len_2 (Pp:=fun us=>bindArgs _ ⟨us,[]⟩=pure (List.zip _ us)) (fun _ _=>rfl) us hl
 have F18:=fun_mk (st:=s_sourcefits) l18 c18 k18
 have b18:=F18.binds (ps:=["done","reader","source"]) fun _ _ _ _ _ _ us hl=>len_3 (Pp:=fun us=>bindArgs _ ⟨us,[]⟩=pure (List.zip _ us)) (fun _ _ _=>rfl) us hl
 have F19:=fun_mk (st:=s_fromsfit) l19 c19 k19
 have b19:=F19.binds (ps:=["done","froms"]) fun _ _ _ _ _ _ us hl=>len_2 (Pp:=fun us=>bindArgs _ ⟨us,[]⟩=pure (List.zip _ us)) (fun _ _=>rfl) us hl
 have F20:=fun_mk (st:=s_linesfit) l20 c20 k20
 have b20:=F20.binds (ps:=["program","done","lines"]) fun _ _ _ _ _ _ us hl=>len_3 (Pp:=fun us=>bindArgs _ ⟨us,[]⟩=pure (List.zip _ us)) (fun _ _ _=>rfl) us hl
 have F21:=fun_mk (st:=s_wholewalk) l21 c21 k21
 have b21:=F21.binds (ps:=["program","tale"]) fun _ _ _ _ _ _ us hl=>len_2 (Pp:=fun us=>bindArgs _ ⟨us,[]⟩=pure (List.zip _ us)) (fun _ _=>rfl) us hl
 have F22:=fun_mk (st:=s_cupswith) l22 c22 k22
 have b22:=F22.binds (ps:=["program","h","has"]) fun _ _ _ _ _ _ us hl=>len_3 (Pp:=fun us=>bindArgs _ ⟨us,[]⟩=pure (List.zip _ us)) (fun _ _ _=>rfl) us hl
 have F23:=fun_mk (st:=s_lastof) l23 c23 k23
 have b23:=F23.binds (ps:=["line"]) fun _ _ _ _ _ _ us hl=>len_1 (Pp:=fun us=>bindArgs _ ⟨us,[]⟩=pure (List.zip _ us)) (fun _=>rfl) us hl
 have F24:=fun_mk (st:=s_outcomewith) l24 c24 k24
 have b24:=F24.binds (ps:=["program","filled","lines"]) fun _ _ _ _ _ _ us hl=>len_3 (Pp:=fun us=>bindArgs _ ⟨us,[]⟩=pure (List.zip _ us)) (fun _ _ _=>rfl) us hl
 have F25:=fun_mk (st:=s_outcomeof) l25 c25 k25
 have b25:=F25.binds (ps:=["program","tale"]) fun _ _ _ _ _ _ us hl=>len_2 (Pp:=fun us=>bindArgs _ ⟨us,[]⟩=pure (List.zip _ us)) (fun _ _=>rfl) us hl
 have F26:=fun_mk (st:=s_Lcellat) l26 c26 k26
 have b26:=F26.binds (ps:=["_law_script","_law_k"]) fun _ _ _ _ _ _ us hl=>len_2 (Pp:=fun us=>bindArgs _ ⟨us,[]⟩=pure (List.zip _ us)) (fun _ _=>rfl) us hl
 have F27:=fun_mk (st:=s_Lmixed) l27 c27 k27
 have b27:=F27.binds (ps:=["_law_cell","_law_k"]) fun _ _ _ _ _ _ us hl=>len_2 (Pp:=fun us=>bindArgs _ ⟨us,[]⟩=pure (List.zip _ us)) (fun _ _=>rfl) us hl
 have F28:=fun_mk (st:=s_Lother) l28 c28 k28
 have b28:=F28.binds (ps:=["_law_cell","_law_k"]) fun _ _ _ _ _ _ us hl=>len_2 (Pp:=fun us=>bindArgs _ ⟨us,[]⟩=pure (List.zip _ us)) (fun _ _=>rfl) us hl
 have F29:=fun_mk (st:=s_Lthird) l29 c29 k29
 have b29:=F29.binds (ps:=["_law_cell","_law_k"]) fun _ _ _ _ _ _ us hl=>len_2 (Pp:=fun us=>bindArgs _ ⟨us,[]⟩=pure (List.zip _ us)) (fun _ _=>rfl) us hl
 have F30:=fun_mk (st:=s_Lnumber) l30 c30 k30
 have b30:=F30.binds (ps:=["_law_cell"]) fun _ _ _ _ _ _ us hl=>len_1 (Pp:=fun us=>bindArgs _ ⟨us,[]⟩=pure (List.zip _ us)) (fun _=>rfl) us hl
 have F31:=fun_mk (st:=s_Lnames) l31 c31 k31
 have b31:=F31.binds (ps:=["_law_cell"]) fun _ _ _ _ _ _ us hl=>len_1 (Pp:=fun us=>bindArgs _ ⟨us,[]⟩=pure (List.zip _ us)) (fun _=>rfl) us hl
 have F32:=fun_mk (st:=s_Lsize) l32 c32 k32
 have b32:=F32.binds (ps:=["_law_script"]) fun _ _ _ _ _ _ us hl=>len_1 (Pp:=fun us=>bindArgs _ ⟨us,[]⟩=pure (List.zip _ us)) (fun _=>rfl) us hl
 have F33:=fun_mk (st:=s_Lguard) l33 c33 k33
 have b33:=F33.binds (ps:=["_law_m","_law_names_here","_law_pool"]) fun _ _ _ _ _ _ us hl=>len_3 (Pp:=fun us=>bindArgs _ ⟨us,[]⟩=pure (List.zip _ us)) (fun _ _ _=>rfl) us hl
 have F34:=fun_mk (st:=s_Ldeed) l34 c34 k34
 have b34:=F34.binds (ps:=["_law_m","_law_own","_law_names_here","_law_pool","_law_wide"]) fun _ _ _ _ _ _ us hl=>len_5 (Pp:=fun us=>bindArgs _ ⟨us,[]⟩=pure (List.zip _ us)) (fun _ _ _ _ _=>rfl) us hl
 have F35:=fun_mk (st:=s_Lprogram) l35 c35 k35
 have b35:=F35.binds (ps:=["_law_script","_law_names_here"]) fun _ _ _ _ _ _ us hl=>len_2 (Pp:=fun us=>bindArgs _ ⟨us,[]⟩=pure (List.zip _ us)) (fun _ _=>rfl) us hl
 have F36:=fun_mk (st:=s_Lplace) l36 c36 k36
 have b36:=F36.binds (ps:=["_law_deed_here"]) fun _ _ _ _ _ _ us hl=>len_1 (Pp:=fun us=>bindArgs _ ⟨us,[]⟩=pure (List.zip _ us)) (fun _=>rfl) us hl
 have F37:=fun_mk (st:=s_Ldeeds) l37 c37 k37
 have b37:=F37.binds (ps:=["_law_made"]) fun _ _ _ _ _ _ us hl=>len_1 (Pp:=fun us=>bindArgs _ ⟨us,[]⟩=pure (List.zip _ us)) (fun _=>rfl) us hl
 have F38:=fun_mk (st:=s_Lholds) l38 c38 k38
 have b38:=F38.binds (ps:=["_law_guard_here","_law_held"]) fun _ _ _ _ _ _ us hl=>len_2 (Pp:=fun us=>bindArgs _ ⟨us,[]⟩=pure (List.zip _ us)) (fun _ _=>rfl) us hl
 have F39:=fun_mk (st:=s_Lwrites) l39 c39 k39
 have b39:=F39.binds (ps:=["_law_deeds_here","_law_place_here"]) fun _ _ _ _ _ _ us hl=>len_2 (Pp:=fun us=>bindArgs _ ⟨us,[]⟩=pure (List.zip _ us)) (fun _ _=>rfl) us hl
 have F40:=fun_mk (st:=s_Lnamed) l40 c40 k40
 have b40:=F40.binds (ps:=["_law_hand"]) fun _ _ _ _ _ _ us hl=>len_1 (Pp:=fun us=>bindArgs _ ⟨us,[]⟩=pure (List.zip _ us)) (fun _=>rfl) us hl
 have F41:=fun_mk (st:=s_Lgone) l41 c41 k41
 have b41:=F41.binds (ps:=["_law_made","_law_deeds_here","_law_script","_law_turn"]) fun _ _ _ _ _ _ us hl=>len_4 (Pp:=fun us=>bindArgs _ ⟨us,[]⟩=pure (List.zip _ us)) (fun _ _ _ _=>rfl) us hl
 have F42:=fun_mk (st:=s_Llines) l42 c42 k42
 have b42:=F42.binds (ps:=["_law_deeds_here","_law_script","_law_done","_law_turn"]) fun _ _ _ _ _ _ us hl=>len_4 (Pp:=fun us=>bindArgs _ ⟨us,[]⟩=pure (List.zip _ us)) (fun _ _ _ _=>rfl) us hl
 have F43:=fun_mk (st:=s_Lpairs) l43 c43 k43
 have b43:=F43.binds (ps:=["_law_found","_law_due"]) fun _ _ _ _ _ _ us hl=>len_2 (Pp:=fun us=>bindArgs _ ⟨us,[]⟩=pure (List.zip _ us)) (fun _ _=>rfl) us hl
 have F44:=fun_mk (st:=s_Ltold) l44 c44 k44
 have b44:=F44.binds (ps:=["_law_made","_law_script","_law_turn"]) fun _ _ _ _ _ _ us hl=>len_3 (Pp:=fun us=>bindArgs _ ⟨us,[]⟩=pure (List.zip _ us)) (fun _ _ _=>rfl) us hl
 have F45:=fun_mk (st:=s_law) l45 c45 k45
 have b45:=F45.binds (ps:=["_law_script"]) fun _ _ _ _ _ _ us hl=>len_1 (Pp:=fun us=>bindArgs _ ⟨us,[]⟩=pure (List.zip _ us)) (fun _=>rfl) us hl
 refine ⟨PySem.W.fnOf "law" "law" (defArgs s_law) (defBody s_law) (defScope s_law) .none kV45 dc45 pm45 an45 cd45 ct45,fun s v=>.of_eq rfl,fun base _ _=>?_⟩
 have h_isread:Has l.prog w K mg base 1 "is_read" ["deed"] (sp_isread K):=⟨_,_,ok_isread F0 T ,PySem.W.mg_of X G a0,k0,b0⟩
 have h_placeof:Has l.prog w K mg base 2 "place_of" ["deed"] (sp_placeof K):=⟨_,_,ok_placeof F1 T h_isread,PySem.W.mg_of X G a1,k1,b1⟩
 have h_iswrite:Has l.prog w K mg base 1 "is_write" ["deed"] (sp_iswrite K):=⟨_,_,ok_iswrite F2 T ,PySem.W.mg_of X G a2,k2,b2⟩
 have h_numberof:Has l.prog w K mg base 2 "number_of" ["deed"] (sp_numberof K):=⟨_,_,ok_numberof F3 T h_iswrite,PySem.W.mg_of X G a3,k3,b3⟩
 have h_cupof:Has l.prog w K mg base 2 "cup_of" ["deed"] (sp_cupof K):=⟨_,_,ok_cupof F4 T h_isread,PySem.W.mg_of X G a4,k4,b4⟩
 have h_guardof:Has l.prog w K mg base 1 "guard_of" ["deed"] (sp_guardof K):=⟨_,_,ok_guardof F5 T ,PySem.W.mg_of X G a5,k5,b5⟩
 have h_holds:Has l.prog w K mg base 1 "holds" ["guard","cups"] (sp_holds K):=⟨_,_,ok_holds F6 T ,PySem.W.mg_of X G a6,k6,b6⟩
 have h_pointdeeds:Has l.prog w K mg base 2 "point_deeds" ["hand"] (sp_pointdeeds K):=⟨_,_,ok_pointdeeds F7 T h_iswrite h_isread,PySem.W.mg_of X G a7,k7,b7⟩
 have h_numbered:Has l.prog w K mg base 3 "numbered" ["hand"] (sp_numbered K):=⟨_,_,ok_numbered F8 T h_placeof,PySem.W.mg_of X G a8,k8,b8⟩
 have h_deedat:Has l.prog w K mg base 3 "deed_at" ["program","point"] (sp_deedat K):=⟨_,_,ok_deedat F9 T h_pointdeeds,PySem.W.mg_of X G a9,k9,b9⟩
 have h_numberat:Has l.prog w K mg base 4 "number_at" ["program","source"] (sp_numberat K):=⟨_,_,ok_numberat F10 T h_numberof h_deedat,PySem.W.mg_of X G a10,k10,b10⟩
 have h_places:Has l.prog w K mg base 3 "places" ["program"] (sp_places K):=⟨_,_,ok_places F11 T h_placeof h_pointdeeds,PySem.W.mg_of X G a11,k11,b11⟩
 have h_cups:Has l.prog w K mg base 3 "cups" ["program","h"] (sp_cups K):=⟨_,_,ok_cups F12 T h_guardof h_cupof h_isread,PySem.W.mg_of X G a12,k12,b12⟩
 have h_Walkinit:HasI l.prog w K mg base 1 "Walk" ["self"] (sp_Walkinit K):=⟨_,_,ok_Walkinit F13 T ,T.c_Walk,(by rw [cA_of aC_Walk]; exact ⟨mk_Walk,a13,i13,kc_Walk⟩),b13⟩
 have h_writes:Has l.prog w K mg base 4 "writes" ["program","point"] (sp_writes K):=⟨_,_,ok_writes F14 T h_deedat h_iswrite,PySem.W.mg_of X G a14,k14,b14⟩
 have h_numberread:Has l.prog w K mg base 5 "number_read" ["program","sources","reader"] (sp_numberread K):=⟨_,_,ok_numberread F15 T h_numberat h_writes,PySem.W.mg_of X G a15,k15,b15⟩
 have h_walkby:Has l.prog w K mg base 6 "walk_by" ["program","sources"] (sp_walkby K):=⟨_,_,ok_walkby F16 T h_Walkinit h_numbered h_isread h_holds h_placeof h_numberread h_guardof h_cupof,PySem.W.mg_of X G a16,k16,b16⟩
 have h_writersto:Has l.prog w K mg base 3 "writers_to" ["done","place"] (sp_writersto K):=⟨_,_,ok_writersto F17 T h_iswrite h_placeof,PySem.W.mg_of X G a17,k17,b17⟩
 have h_sourcefits:Has l.prog w K mg base 4 "source_fits" ["done","reader","source"] (sp_sourcefits K):=⟨_,_,ok_sourcefits F18 T h_writersto h_placeof,PySem.W.mg_of X G a18,k18,b18⟩
 have h_fromsfit:Has l.prog w K mg base 5 "froms_fit" ["done","froms"] (sp_fromsfit K):=⟨_,_,ok_fromsfit F19 T h_sourcefits h_isread,PySem.W.mg_of X G a19,k19,b19⟩
 have h_linesfit:Has l.prog w K mg base 4 "lines_fit" ["program","done","lines"] (sp_linesfit K):=⟨_,_,ok_linesfit F20 T h_places h_writersto,PySem.W.mg_of X G a20,k20,b20⟩
 have h_wholewalk:Has l.prog w K mg base 7 "whole_walk" ["program","tale"] (sp_wholewalk K):=⟨_,_,ok_wholewalk F21 T h_walkby h_fromsfit h_linesfit,PySem.W.mg_of X G a21,k21,b21⟩
 have h_cupswith:Has l.prog w K mg base 4 "cups_with" ["program","h","has"] (sp_cupswith K):=⟨_,_,ok_cupswith F22 T h_cups,PySem.W.mg_of X G a22,k22,b22⟩
 have h_lastof:Has l.prog w K mg base 1 "last_of" ["line"] (sp_lastof K):=⟨_,_,ok_lastof F23 T ,PySem.W.mg_of X G a23,k23,b23⟩
 have h_outcomewith:Has l.prog w K mg base 5 "outcome_with" ["program","filled","lines"] (sp_outcomewith K):=⟨_,_,ok_outcomewith F24 T h_cupswith h_numberat h_places h_lastof,PySem.W.mg_of X G a24,k24,b24⟩
 have h_outcomeof:Has l.prog w K mg base 8 "outcome_of" ["program","tale"] (sp_outcomeof K):=⟨_,_,ok_outcomeof F25 T h_wholewalk h_outcomewith,PySem.W.mg_of X G a25,k25,b25⟩
 have h_Lcellat:Has l.prog w K mg base 1 "_law_cell_at" ["_law_script","_law_k"] (sp_Lcellat K):=⟨_,_,ok_Lcellat F26 T ,PySem.W.mg_of X G a26,k26,b26⟩
 have h_Lmixed:Has l.prog w K mg base 1 "_law_mixed" ["_law_cell","_law_k"] (sp_Lmixed K):=⟨_,_,ok_Lmixed F27 T ,PySem.W.mg_of X G a27,k27,b27⟩
 have h_Lother:Has l.prog w K mg base 1 "_law_other" ["_law_cell","_law_k"] (sp_Lother K):=⟨_,_,ok_Lother F28 T ,PySem.W.mg_of X G a28,k28,b28⟩
 have h_Lthird:Has l.prog w K mg base 1 "_law_third" ["_law_cell","_law_k"] (sp_Lthird K):=⟨_,_,ok_Lthird F29 T ,PySem.W.mg_of X G a29,k29,b29⟩
 have h_Lnumber:Has l.prog w K mg base 1 "_law_number" ["_law_cell"] (sp_Lnumber K):=⟨_,_,ok_Lnumber F30 T ,PySem.W.mg_of X G a30,k30,b30⟩
 have h_Lnames:Has l.prog w K mg base 1 "_law_names" ["_law_cell"] (sp_Lnames K):=⟨_,_,ok_Lnames F31 T ,PySem.W.mg_of X G a31,k31,b31⟩
 have h_Lsize:Has l.prog w K mg base 2 "_law_size" ["_law_script"] (sp_Lsize K):=⟨_,_,ok_Lsize F32 T h_Lcellat,PySem.W.mg_of X G a32,k32,b32⟩
 have h_Lguard:Has l.prog w K mg base 1 "_law_guard" ["_law_m","_law_names_here","_law_pool"] (sp_Lguard K):=⟨_,_,ok_Lguard F33 T ,PySem.W.mg_of X G a33,k33,b33⟩
 have h_Ldeed:Has l.prog w K mg base 2 "_law_deed" ["_law_m","_law_own","_law_names_here","_law_pool","_law_wide"] (sp_Ldeed K):=⟨_,_,ok_Ldeed F34 T h_Lguard,PySem.W.mg_of X G a34,k34,b34⟩
 have h_Lprogram:Has l.prog w K mg base 3 "_law_program" ["_law_script","_law_names_here"] (sp_Lprogram K):=⟨_,_,ok_Lprogram F35 T h_Lnumber h_Lsize h_Lcellat h_Lmixed h_Ldeed,PySem.W.mg_of X G a35,k35,b35⟩
 have h_Lplace:Has l.prog w K mg base 1 "_law_place" ["_law_deed_here"] (sp_Lplace K):=⟨_,_,ok_Lplace F36 T ,PySem.W.mg_of X G a36,k36,b36⟩
 have h_Ldeeds:Has l.prog w K mg base 1 "_law_deeds" ["_law_made"] (sp_Ldeeds K):=⟨_,_,ok_Ldeeds F37 T ,PySem.W.mg_of X G a37,k37,b37⟩
 have h_Lholds:Has l.prog w K mg base 1 "_law_holds" ["_law_guard_here","_law_held"] (sp_Lholds K):=⟨_,_,ok_Lholds F38 T ,PySem.W.mg_of X G a38,k38,b38⟩
 have h_Lwrites:Has l.prog w K mg base 2 "_law_writes" ["_law_deeds_here","_law_place_here"] (sp_Lwrites K):=⟨_,_,ok_Lwrites F39 T h_Lplace,PySem.W.mg_of X G a39,k39,b39⟩
 have h_Lnamed:Has l.prog w K mg base 1 "_law_named" ["_law_hand"] (sp_Lnamed K):=⟨_,_,ok_Lnamed F40 T ,PySem.W.mg_of X G a40,k40,b40⟩
 have h_Lgone:Has l.prog w K mg base 3 "_law_gone" ["_law_made","_law_deeds_here","_law_script","_law_turn"] (sp_Lgone K):=⟨_,_,ok_Lgone F41 T h_Lnamed h_Lholds h_Lwrites h_Lplace h_Lother h_Lcellat,PySem.W.mg_of X G a41,k41,b41⟩
 have h_Llines:Has l.prog w K mg base 3 "_law_lines" ["_law_deeds_here","_law_script","_law_done","_law_turn"] (sp_Llines K):=⟨_,_,ok_Llines F42 T h_Lwrites h_Lplace h_Lthird h_Lcellat,PySem.W.mg_of X G a42,k42,b42⟩
 have h_Lpairs:Has l.prog w K mg base 1 "_law_pairs" ["_law_found","_law_due"] (sp_Lpairs K):=⟨_,_,ok_Lpairs F43 T ,PySem.W.mg_of X G a43,k43,b43⟩
 have h_Ltold:Has l.prog w K mg base 9 "_law_told" ["_law_made","_law_script","_law_turn"] (sp_Ltold K):=⟨_,_,ok_Ltold F44 T h_Ldeeds h_Lgone h_Llines h_outcomeof h_Lpairs,PySem.W.mg_of X G a44,k44,b44⟩
 exact ok_law F45 T h_Lprogram h_Lnames h_Ltold h_Lcellat
theorem walk {l:PySem.W.OpenLaw} {q:Program} {loose:List Str} {XP:(Str→Option Value)→Heap→Prop} {YP:World→Heap→Prop} {d:DefRec} {K:Params→PySem.W.Frag} (hn:l.most=some 63) (hdf:d.params.defaults=[])
  (hY:∀ (w:World) (h:Heap),YP w h→(K w.params).In h)
  (F:∀ (w:World) (mg:Str→Option Value) (fa:Addr) (h:Heap),(K w.params).In h→h.Ns mainGlobals mg→mg d.name=some (.ref fa) →
   ∃ fd:FuncData,(∀ (s:Shared) (u:Value),BindsTo s fd ⟨[u],[]⟩ [("_law_script",u)])∧∀ base:Heap,(K w.params).In base→base.Ns mainGlobals mg→FnOk l.prog w (K w.params) mg base CX0 10 fa fd ["_law_script"] (sp_law (K w.params))) :
  PySem.W.WalkO q loose XP YP l.row.toRowW d [] (fun f vs=>PySem.call f vs) :=
 L2.walk_ofB (n:=63) (k:=10) (x:="_law_script") (sp:=fun w=>sp_law (K w.params)) hn (by decide) hdf ⟨rfl,by decide,by decide⟩ hY F fun _ _ a ns hl hf hS=>⟨a,ns,rfl,hS,hl,hf,fun _=>rfl⟩
def topX (i:Nat):Stmt:=PySem.Challenge.pw_latewrite_k23_outcomes_of_tales.main.body.getD i (.Pass ⟨0,0,0,0⟩)
def tX0:Stmt:=topX 0
def tX1:Stmt:=topX 1
def tX2:Stmt:=topX 2
def tX3:Stmt:=topX 3
def tX4:Stmt:=topX 4
def tX5:Stmt:=topX 5
def tX6:Stmt:=topX 6
def tX7:Stmt:=topX 7
def tX8:Stmt:=topX 8
def tX9:Stmt:=topX 9
def tX10:Stmt:=topX 10
def tX11:Stmt:=topX 11
def tX12:Stmt:=topX 12
def tX13:Stmt:=topX 13
def tX14:Stmt:=topX 14
def tX15:Stmt:=topX 15
def tX16:Stmt:=topX 16
def tX17:Stmt:=topX 17
def tX18:Stmt:=topX 18
def tX19:Stmt:=topX 19
def tX20:Stmt:=topX 20
def tX21:Stmt:=topX 21
def tX22:Stmt:=topX 22
def tX23:Stmt:=topX 23
def tX24:Stmt:=topX 24
def tX25:Stmt:=topX 25
def tX26:Stmt:=topX 26
def tX27:Stmt:=topX 27
def tX28:Stmt:=topX 28
def tX29:Stmt:=topX 29
def tX30:Stmt:=topX 30
def tX31:Stmt:=topX 31
def tX32:Stmt:=topX 32
def tX33:Stmt:=topX 33
def tX34:Stmt:=topX 34
def tX35:Stmt:=topX 35
def tX36:Stmt:=topX 36
def tX37:Stmt:=topX 37
def tX38:Stmt:=topX 38
def tX39:Stmt:=topX 39
def tX40:Stmt:=topX 40
def tX41:Stmt:=topX 41
def tX42:Stmt:=topX 42
def tX43:Stmt:=topX 43
def tX44:Stmt:=topX 44
def tX45:Stmt:=topX 45
def tX46:Stmt:=topX 46
def tX47:Stmt:=topX 47
def tX48:Stmt:=topX 48
def tX49:Stmt:=topX 49
def tX50:Stmt:=topX 50
def tX51:Stmt:=topX 51
def tX52:Stmt:=topX 52
def pw:Program:={ PySem.Challenge.pw_latewrite_k23_outcomes_of_tales with main:={ PySem.Challenge.pw_latewrite_k23_outcomes_of_tales.main with body:=[tX0,tX1,tX2,tX3,tX4,tX5,tX6,tX7,tX8,tX9,tX10,tX11,tX12,tX13,tX14,tX15,tX16,tX17,tX18,tX19,tX20,tX21,tX22,tX23,tX24,tX25,tX26,tX27,tX28,tX29,tX30,tX31,tX32,tX33,tX34,tX35,tX36,tX37,tX38,tX39,tX40,tX41,tX42,tX43,tX44,tX45,tX46,tX47,tX48,tX49,tX50,tX51,tX52] } }
def rw:PySem.W.OpenLaw:={ PySem.Challenge.rw_latewrite_k23_outcomes_of_tales with prog:=pw }
theorem rw_eq:PySem.Challenge.rw_latewrite_k23_outcomes_of_tales=Own.rw:=by rfl
open_shared sh for Own.pw leaving 40
end Own
open PySem PySem.W PyProof.Rows
set_option maxRecDepth 100000 in
set_option maxHeartbeats 0 in
theorem Own.main_holds:Own.rw.Holds:=by
 w_on; o_law; z_head; (case hw=>w_witness2)
 k_fill
 refine L2.walkX (fun _=>rfl) (Own.walk (l:=Own.rw) rfl rfl (fun w h Y=>Y) ?F)
 case F =>
  intro w mg fa h KX G hmg
  refine' Own.all_mk KX G hmg ?aC_Walk ?pg_Walk ?hd_Walk ?po_Walk ?sa_Walk ?mk_Walk ?kc_Walk ?nA_Walk_done ?nA_Walk_stops ?nA_Walk_filled ?a0 ?l0 ?c0 ?k0 ?a1 ?l1 ?c1 ?k1 ?a2 ?l2 ?c2 ?k2 ?a3 ?l3 ?c3 ?k3 ?a4 ?l4 ?c4 ?k4 ?a5 ?l5 ?c5 ?k5 ?a6 ?l6 ?c6 ?k6 ?a7 ?l7 ?c7 ?k7 ?a8 ?l8 ?c8 ?k8 ?a9 ?l9 ?c9 ?k9 ?a10 ?l10 ?c10 ?k10 ?a11 ?l11 ?c11 ?k11 ?a12 ?l12 ?c12 ?k12 ?a13 ?i13 ?l13 ?c13 ?k13 ?a14 ?l14 ?c14 ?k14 ?a15 ?l15 ?c15 ?k15 ?a16 ?l16 ?c16 ?k16 ?a17 ?l17 ?c17 ?k17 ?a18 ?l18 ?c18 ?k18 ?a19 ?l19 ?c19 ?k19 ?a20 ?l20 ?c20 ?k20 ?a21 ?l21 ?c21 ?k21 ?a22 ?l22 ?c22 ?k22 ?a23 ?l23 ?c23 ?k23 ?a24 ?l24 ?c24 ?k24 ?a25 ?l25 ?c25 ?k25 ?a26 ?l26 ?c26 ?k26 ?a27 ?l27 ?c27 ?k27 ?a28 ?l28 ?c28 ?k28 ?a29 ?l29 ?c29 ?k29 ?a30 ?l30 ?c30 ?k30 ?a31 ?l31 ?c31 ?k31 ?a32 ?l32 ?c32 ?k32 ?a33 ?l33 ?c33 ?k33 ?a34 ?l34 ?c34 ?k34 ?a35 ?l35 ?c35 ?k35 ?a36 ?l36 ?c36 ?k36 ?a37 ?l37 ?c37 ?k37 ?a38 ?l38 ?c38 ?k38 ?a39 ?l39 ?c39 ?k39 ?a40 ?l40 ?c40 ?k40 ?a41 ?l41 ?c41 ?k41 ?a42 ?l42 ?c42 ?k42 ?a43 ?l43 ?c43 ?k43 ?a44 ?l44 ?c44 ?k44 ?a45 ?l45 ?c45 ?k45 ?z_all ?z_bool ?z_dict ?z_enumerate ?z_int ?z_isinstance ?z_len ?z_list ?z_max ?z_min ?z_range ?z_set ?z_sorted ?z_str ?z_tuple ?z_zip
  (case aC_Walk=>k_is)
  (case pg_Walk=>k_is)
  (case hd_Walk=>k_is)
  (case po_Walk=>k_is)
  (case sa_Walk=>k_is)
  (case mk_Walk=>k_is)
  (case kc_Walk=>k_is)
  (case nA_Walk_done=>k_is)
  (case nA_Walk_stops=>k_is)
  (case nA_Walk_filled=>k_is)
  (case a0=>k_is)
  (case l0=>k_is)
  (case c0=>k_is)
  (case k0=>k_is)
  (case a1=>k_is)
  (case l1=>k_is)
  (case c1=>k_is)
  (case k1=>k_is)
  (case a2=>k_is)
  (case l2=>k_is)
  (case c2=>k_is)
  (case k2=>k_is)
  (case a3=>k_is)
  (case l3=>k_is)
  (case c3=>k_is)
  (case k3=>k_is)
  (case a4=>k_is)
  (case l4=>k_is)
  (case c4=>k_is)
  (case k4=>k_is)
  (case a5=>k_is)
  (case l5=>k_is)
  (case c5=>k_is)
  (case k5=>k_is)
  (case a6=>k_is)
  (case l6=>k_is)
  (case c6=>k_is)
  (case k6=>k_is)
  (case a7=>k_is)
  (case l7=>k_is)
  (case c7=>k_is)
  (case k7=>k_is)
  (case a8=>k_is)
  (case l8=>k_is)
  (case c8=>k_is)
  (case k8=>k_is)
  (case a9=>k_is)
  (case l9=>k_is)
  (case c9=>k_is)
  (case k9=>k_is)
  (case a10=>k_is)
  (case l10=>k_is)
  (case c10=>k_is)
  (case k10=>k_is)
  (case a11=>k_is)
  (case l11=>k_is)
  (case c11=>k_is)
  (case k11=>k_is)
  (case a12=>k_is)
  (case l12=>k_is)
  (case c12=>k_is)
  (case k12=>k_is)
  (case a13=>k_is)
  (case i13=>k_is)
  (case l13=>k_is)
  (case c13=>k_is)
  (case k13=>k_is)
  (case a14=>k_is)
  (case l14=>k_is)
  (case c14=>k_is)
  (case k14=>k_is)
  (case a15=>k_is)
  (case l15=>k_is)
  (case c15=>k_is)
  (case k15=>k_is)
  (case a16=>k_is)
  (case l16=>k_is)
  (case c16=>k_is)
  (case k16=>k_is)
  (case a17=>k_is)
  (case l17=>k_is)
  (case c17=>k_is)
  (case k17=>k_is)
  (case a18=>k_is)
  (case l18=>k_is)
  (case c18=>k_is)
  (case k18=>k_is)
  (case a19=>k_is)
  (case l19=>k_is)
  (case c19=>k_is)
  (case k19=>k_is)
  (case a20=>k_is)
  (case l20=>k_is)
  (case c20=>k_is)
  (case k20=>k_is)
  (case a21=>k_is)
  (case l21=>k_is)
  (case c21=>k_is)
  (case k21=>k_is)
  (case a22=>k_is)
  (case l22=>k_is)
  (case c22=>k_is)
  (case k22=>k_is)
  (case a23=>k_is)
  (case l23=>k_is)
  (case c23=>k_is)
  (case k23=>k_is)
  (case a24=>k_is)
  (case l24=>k_is)
  (case c24=>k_is)
  (case k24=>k_is)
  (case a25=>k_is)
  (case l25=>k_is)
  (case c25=>k_is)
  (case k25=>k_is)
  (case a26=>k_is)
  (case l26=>k_is)
  (case c26=>k_is)
  (case k26=>k_is)
  (case a27=>k_is)
  (case l27=>k_is)
  (case c27=>k_is)
  (case k27=>k_is)
  (case a28=>k_is)
  (case l28=>k_is)
  (case c28=>k_is)
  (case k28=>k_is)
  (case a29=>k_is)
  (case l29=>k_is)
  (case c29=>k_is)
  (case k29=>k_is)
  (case a30=>k_is)
  (case l30=>k_is)
  (case c30=>k_is)
  (case k30=>k_is)
  (case a31=>k_is)
  (case l31=>k_is)
  (case c31=>k_is)
  (case k31=>k_is)
  (case a32=>k_is)
  (case l32=>k_is)
  (case c32=>k_is)
  (case k32=>k_is)
  (case a33=>k_is)
  (case l33=>k_is)
  (case c33=>k_is)
  (case k33=>k_is)
  (case a34=>k_is)
  (case l34=>k_is)
  (case c34=>k_is)
  (case k34=>k_is)
  (case a35=>k_is)
  (case l35=>k_is)
  (case c35=>k_is)
  (case k35=>k_is)
  (case a36=>k_is)
  (case l36=>k_is)
  (case c36=>k_is)
  (case k36=>k_is)
  (case a37=>k_is)
  (case l37=>k_is)
  (case c37=>k_is)
  (case k37=>k_is)
  (case a38=>k_is)
  (case l38=>k_is)
  (case c38=>k_is)
  (case k38=>k_is)
  (case a39=>k_is)
  (case l39=>k_is)
  (case c39=>k_is)
  (case k39=>k_is)
  (case a40=>k_is)
  (case l40=>k_is)
  (case c40=>k_is)
  (case k40=>k_is)
  (case a41=>k_is)
  (case l41=>k_is)
  (case c41=>k_is)
  (case k41=>k_is)
  (case a42=>k_is)
  (case l42=>k_is)
  (case c42=>k_is)
  (case k42=>k_is)
  (case a43=>k_is)
  (case l43=>k_is)
  (case c43=>k_is)
  (case k43=>k_is)
  (case a44=>k_is)
  (case l44=>k_is)
  (case c44=>k_is)
  (case k44=>k_is)
  (case a45=>k_is)
  (case l45=>k_is)
  (case c45=>k_is)
  (case k45=>k_is)
  (case z_all=>k_is)
  (case z_bool=>k_is)
  (case z_dict=>k_is)
  (case z_enumerate=>k_is)
  (case z_int=>k_is)
  (case z_isinstance=>k_is)
  (case z_len=>k_is)
  (case z_list=>k_is)
  (case z_max=>k_is)
  (case z_min=>k_is)
  (case z_range=>k_is)
  (case z_set=>k_is)
  (case z_sorted=>k_is)
  (case z_str=>k_is)
  (case z_tuple=>k_is)
  (case z_zip=>k_is)
theorem PySem.Challenge.cw_latewrite_k23_outcomes_of_tales_holds : PySem.Challenge.rw_latewrite_k23_outcomes_of_tales.Holds := by
 rw [Own.rw_eq]
 exact Own.main_holds
