
import PyProof.Rows.All
import Wide.All
import OpenK.AllK
import OpenK.ZGo
import Wide.FinOn
import Open.Tops
import Lean
import PyProof.EqAt
import PyProof.EqKinds
import PyProof.TupleCall
import PyProof.NeKinds
import PySem.Challenge.RW_latewrite_k05_texts_refused
set_option Elab.async false
set_option linter.all false
set_option maxRecDepth 100000
universe u0 u1 u2 u3 u4 u5 u6 u7 u8 u9 u10 u11 u12 u13 u14 u15 u16
inductive Ex_1_1 {t0:Sort u0} (P0:t0→Prop):Prop
 | mk (x0:t0) (h0:P0 x0):Ex_1_1 P0
inductive Ex_1_2 {t0:Sort u0} (P0 P1:t0→Prop):Prop
 | mk (x0:t0) (h0:P0 x0) (h1:P1 x0):Ex_1_2 P0 P1
inductive Ex_1_3 {t0:Sort u0} (P0 P1 P2:t0→Prop):Prop
 | mk (x0:t0) (h0:P0 x0) (h1:P1 x0) (h2:P2 x0):Ex_1_3 P0 P1 P2
inductive Ex_1_4 {t0:Sort u0} (P0 P1 P2 P3:t0→Prop):Prop
 | mk (x0:t0) (h0:P0 x0) (h1:P1 x0) (h2:P2 x0) (h3:P3 x0):Ex_1_4 P0 P1 P2 P3
inductive Ex_2_1 {t0:Sort u0} {t1:Sort u1} (P0:t0→t1→Prop):Prop
 | mk (x0:t0) (x1:t1) (h0:P0 x0 x1):Ex_2_1 P0
inductive Ex_2_2 {t0:Sort u0} {t1:Sort u1} (P0 P1:t0→t1→Prop):Prop
 | mk (x0:t0) (x1:t1) (h0:P0 x0 x1) (h1:P1 x0 x1):Ex_2_2 P0 P1
inductive Ex_2_3 {t0:Sort u0} {t1:Sort u1} (P0 P1 P2:t0→t1→Prop):Prop
 | mk (x0:t0) (x1:t1) (h0:P0 x0 x1) (h1:P1 x0 x1) (h2:P2 x0 x1):Ex_2_3 P0 P1 P2
inductive Ex_2_4 {t0:Sort u0} {t1:Sort u1} (P0 P1 P2 P3:t0→t1→Prop):Prop
 | mk (x0:t0) (x1:t1) (h0:P0 x0 x1) (h1:P1 x0 x1) (h2:P2 x0 x1) (h3:P3 x0 x1):Ex_2_4 P0 P1 P2 P3
inductive Ex_2_5 {t0:Sort u0} {t1:Sort u1} (P0 P1 P2 P3 P4:t0→t1→Prop):Prop
 | mk (x0:t0) (x1:t1) (h0:P0 x0 x1) (h1:P1 x0 x1) (h2:P2 x0 x1) (h3:P3 x0 x1) (h4:P4 x0 x1):Ex_2_5 P0 P1 P2 P3 P4
inductive Ex_2_6 {t0:Sort u0} {t1:Sort u1} (P0 P1 P2 P3 P4 P5:t0→t1→Prop):Prop
 | mk (x0:t0) (x1:t1) (h0:P0 x0 x1) (h1:P1 x0 x1) (h2:P2 x0 x1) (h3:P3 x0 x1) (h4:P4 x0 x1) (h5:P5 x0 x1):Ex_2_6 P0 P1 P2 P3 P4 P5
inductive Ex_2_8 {t0:Sort u0} {t1:Sort u1} (P0 P1 P2 P3 P4 P5 P6 P7:t0→t1→Prop):Prop
 | mk (x0:t0) (x1:t1) (h0:P0 x0 x1) (h1:P1 x0 x1) (h2:P2 x0 x1) (h3:P3 x0 x1) (h4:P4 x0 x1) (h5:P5 x0 x1) (h6:P6 x0 x1) (h7:P7 x0 x1):Ex_2_8 P0 P1 P2 P3 P4 P5 P6 P7
inductive Ex_3_1 {t0:Sort u0} {t1:Sort u1} {t2:Sort u2} (P0:t0→t1→t2→Prop):Prop
 | mk (x0:t0) (x1:t1) (x2:t2) (h0:P0 x0 x1 x2):Ex_3_1 P0
inductive Ex_3_2 {t0:Sort u0} {t1:Sort u1} {t2:Sort u2} (P0 P1:t0→t1→t2→Prop):Prop
 | mk (x0:t0) (x1:t1) (x2:t2) (h0:P0 x0 x1 x2) (h1:P1 x0 x1 x2):Ex_3_2 P0 P1
inductive Ex_3_3 {t0:Sort u0} {t1:Sort u1} {t2:Sort u2} (P0 P1 P2:t0→t1→t2→Prop):Prop
 | mk (x0:t0) (x1:t1) (x2:t2) (h0:P0 x0 x1 x2) (h1:P1 x0 x1 x2) (h2:P2 x0 x1 x2):Ex_3_3 P0 P1 P2
inductive Ex_3_4 {t0:Sort u0} {t1:Sort u1} {t2:Sort u2} (P0 P1 P2 P3:t0→t1→t2→Prop):Prop
 | mk (x0:t0) (x1:t1) (x2:t2) (h0:P0 x0 x1 x2) (h1:P1 x0 x1 x2) (h2:P2 x0 x1 x2) (h3:P3 x0 x1 x2):Ex_3_4 P0 P1 P2 P3
inductive Ex_3_5 {t0:Sort u0} {t1:Sort u1} {t2:Sort u2} (P0 P1 P2 P3 P4:t0→t1→t2→Prop):Prop
 | mk (x0:t0) (x1:t1) (x2:t2) (h0:P0 x0 x1 x2) (h1:P1 x0 x1 x2) (h2:P2 x0 x1 x2) (h3:P3 x0 x1 x2) (h4:P4 x0 x1 x2):Ex_3_5 P0 P1 P2 P3 P4
inductive Ex_3_6 {t0:Sort u0} {t1:Sort u1} {t2:Sort u2} (P0 P1 P2 P3 P4 P5:t0→t1→t2→Prop):Prop
 | mk (x0:t0) (x1:t1) (x2:t2) (h0:P0 x0 x1 x2) (h1:P1 x0 x1 x2) (h2:P2 x0 x1 x2) (h3:P3 x0 x1 x2) (h4:P4 x0 x1 x2) (h5:P5 x0 x1 x2):Ex_3_6 P0 P1 P2 P3 P4 P5
inductive Ex_3_7 {t0:Sort u0} {t1:Sort u1} {t2:Sort u2} (P0 P1 P2 P3 P4 P5 P6:t0→t1→t2→Prop):Prop
 | mk (x0:t0) (x1:t1) (x2:t2) (h0:P0 x0 x1 x2) (h1:P1 x0 x1 x2) (h2:P2 x0 x1 x2) (h3:P3 x0 x1 x2) (h4:P4 x0 x1 x2) (h5:P5 x0 x1 x2) (h6:P6 x0 x1 x2):Ex_3_7 P0 P1 P2 P3 P4 P5 P6
inductive Ex_4_1 {t0:Sort u0} {t1:Sort u1} {t2:Sort u2} {t3:Sort u3} (P0:t0→t1→t2→t3→Prop):Prop
 | mk (x0:t0) (x1:t1) (x2:t2) (x3:t3) (h0:P0 x0 x1 x2 x3):Ex_4_1 P0
inductive Ex_4_2 {t0:Sort u0} {t1:Sort u1} {t2:Sort u2} {t3:Sort u3} (P0 P1:t0→t1→t2→t3→Prop):Prop
 | mk (x0:t0) (x1:t1) (x2:t2) (x3:t3) (h0:P0 x0 x1 x2 x3) (h1:P1 x0 x1 x2 x3):Ex_4_2 P0 P1
inductive Ex_4_4 {t0:Sort u0} {t1:Sort u1} {t2:Sort u2} {t3:Sort u3} (P0 P1 P2 P3:t0→t1→t2→t3→Prop):Prop
 | mk (x0:t0) (x1:t1) (x2:t2) (x3:t3) (h0:P0 x0 x1 x2 x3) (h1:P1 x0 x1 x2 x3) (h2:P2 x0 x1 x2 x3) (h3:P3 x0 x1 x2 x3):Ex_4_4 P0 P1 P2 P3
inductive Ex_4_5 {t0:Sort u0} {t1:Sort u1} {t2:Sort u2} {t3:Sort u3} (P0 P1 P2 P3 P4:t0→t1→t2→t3→Prop):Prop
 | mk (x0:t0) (x1:t1) (x2:t2) (x3:t3) (h0:P0 x0 x1 x2 x3) (h1:P1 x0 x1 x2 x3) (h2:P2 x0 x1 x2 x3) (h3:P3 x0 x1 x2 x3) (h4:P4 x0 x1 x2 x3):Ex_4_5 P0 P1 P2 P3 P4
inductive Ex_4_6 {t0:Sort u0} {t1:Sort u1} {t2:Sort u2} {t3:Sort u3} (P0 P1 P2 P3 P4 P5:t0→t1→t2→t3→Prop):Prop
 | mk (x0:t0) (x1:t1) (x2:t2) (x3:t3) (h0:P0 x0 x1 x2 x3) (h1:P1 x0 x1 x2 x3) (h2:P2 x0 x1 x2 x3) (h3:P3 x0 x1 x2 x3) (h4:P4 x0 x1 x2 x3) (h5:P5 x0 x1 x2 x3):Ex_4_6 P0 P1 P2 P3 P4 P5
inductive Ex_4_8 {t0:Sort u0} {t1:Sort u1} {t2:Sort u2} {t3:Sort u3} (P0 P1 P2 P3 P4 P5 P6 P7:t0→t1→t2→t3→Prop):Prop
 | mk (x0:t0) (x1:t1) (x2:t2) (x3:t3) (h0:P0 x0 x1 x2 x3) (h1:P1 x0 x1 x2 x3) (h2:P2 x0 x1 x2 x3) (h3:P3 x0 x1 x2 x3) (h4:P4 x0 x1 x2 x3) (h5:P5 x0 x1 x2 x3) (h6:P6 x0 x1 x2 x3) (h7:P7 x0 x1 x2 x3):Ex_4_8 P0 P1 P2 P3 P4 P5 P6 P7
inductive Ex_5_5 {t0:Sort u0} {t1:Sort u1} {t2:Sort u2} {t3:Sort u3} {t4:Sort u4} (P0 P1 P2 P3 P4:t0→t1→t2→t3→t4→Prop):Prop
 | mk (x0:t0) (x1:t1) (x2:t2) (x3:t3) (x4:t4) (h0:P0 x0 x1 x2 x3 x4) (h1:P1 x0 x1 x2 x3 x4) (h2:P2 x0 x1 x2 x3 x4) (h3:P3 x0 x1 x2 x3 x4) (h4:P4 x0 x1 x2 x3 x4):Ex_5_5 P0 P1 P2 P3 P4
inductive Ex_5_6 {t0:Sort u0} {t1:Sort u1} {t2:Sort u2} {t3:Sort u3} {t4:Sort u4} (P0 P1 P2 P3 P4 P5:t0→t1→t2→t3→t4→Prop):Prop
 | mk (x0:t0) (x1:t1) (x2:t2) (x3:t3) (x4:t4) (h0:P0 x0 x1 x2 x3 x4) (h1:P1 x0 x1 x2 x3 x4) (h2:P2 x0 x1 x2 x3 x4) (h3:P3 x0 x1 x2 x3 x4) (h4:P4 x0 x1 x2 x3 x4) (h5:P5 x0 x1 x2 x3 x4):Ex_5_6 P0 P1 P2 P3 P4 P5
inductive Ex_5_9 {t0:Sort u0} {t1:Sort u1} {t2:Sort u2} {t3:Sort u3} {t4:Sort u4} (P0 P1 P2 P3 P4 P5 P6 P7 P8:t0→t1→t2→t3→t4→Prop):Prop
 | mk (x0:t0) (x1:t1) (x2:t2) (x3:t3) (x4:t4) (h0:P0 x0 x1 x2 x3 x4) (h1:P1 x0 x1 x2 x3 x4) (h2:P2 x0 x1 x2 x3 x4) (h3:P3 x0 x1 x2 x3 x4) (h4:P4 x0 x1 x2 x3 x4) (h5:P5 x0 x1 x2 x3 x4) (h6:P6 x0 x1 x2 x3 x4) (h7:P7 x0 x1 x2 x3 x4) (h8:P8 x0 x1 x2 x3 x4):Ex_5_9 P0 P1 P2 P3 P4 P5 P6 P7 P8
inductive Ex_5_11 {t0:Sort u0} {t1:Sort u1} {t2:Sort u2} {t3:Sort u3} {t4:Sort u4} (P0 P1 P2 P3 P4 P5 P6 P7 P8 P9 P10:t0→t1→t2→t3→t4→Prop):Prop
 | mk (x0:t0) (x1:t1) (x2:t2) (x3:t3) (x4:t4) (h0:P0 x0 x1 x2 x3 x4) (h1:P1 x0 x1 x2 x3 x4) (h2:P2 x0 x1 x2 x3 x4) (h3:P3 x0 x1 x2 x3 x4) (h4:P4 x0 x1 x2 x3 x4) (h5:P5 x0 x1 x2 x3 x4) (h6:P6 x0 x1 x2 x3 x4) (h7:P7 x0 x1 x2 x3 x4) (h8:P8 x0 x1 x2 x3 x4) (h9:P9 x0 x1 x2 x3 x4) (h10:P10 x0 x1 x2 x3 x4):Ex_5_11 P0 P1 P2 P3 P4 P5 P6 P7 P8 P9 P10
inductive Ex_6_5 {t0:Sort u0} {t1:Sort u1} {t2:Sort u2} {t3:Sort u3} {t4:Sort u4} {t5:Sort u5} (P0 P1 P2 P3 P4:t0→t1→t2→t3→t4→t5→Prop):Prop
 | mk (x0:t0) (x1:t1) (x2:t2) (x3:t3) (x4:t4) (x5:t5) (h0:P0 x0 x1 x2 x3 x4 x5) (h1:P1 x0 x1 x2 x3 x4 x5) (h2:P2 x0 x1 x2 x3 x4 x5) (h3:P3 x0 x1 x2 x3 x4 x5) (h4:P4 x0 x1 x2 x3 x4 x5):Ex_6_5 P0 P1 P2 P3 P4
inductive Ex_6_11 {t0:Sort u0} {t1:Sort u1} {t2:Sort u2} {t3:Sort u3} {t4:Sort u4} {t5:Sort u5} (P0 P1 P2 P3 P4 P5 P6 P7 P8 P9 P10:t0→t1→t2→t3→t4→t5→Prop):Prop
 | mk (x0:t0) (x1:t1) (x2:t2) (x3:t3) (x4:t4) (x5:t5) (h0:P0 x0 x1 x2 x3 x4 x5) (h1:P1 x0 x1 x2 x3 x4 x5) (h2:P2 x0 x1 x2 x3 x4 x5) (h3:P3 x0 x1 x2 x3 x4 x5) (h4:P4 x0 x1 x2 x3 x4 x5) (h5:P5 x0 x1 x2 x3 x4 x5) (h6:P6 x0 x1 x2 x3 x4 x5) (h7:P7 x0 x1 x2 x3 x4 x5) (h8:P8 x0 x1 x2 x3 x4 x5) (h9:P9 x0 x1 x2 x3 x4 x5) (h10:P10 x0 x1 x2 x3 x4 x5):Ex_6_11 P0 P1 P2 P3 P4 P5 P6 P7 P8 P9 P10
inductive Ex_15_2 {t0:Sort u0} {t1:Sort u1} {t2:Sort u2} {t3:Sort u3} {t4:Sort u4} {t5:Sort u5} {t6:Sort u6} {t7:Sort u7} {t8:Sort u8} {t9:Sort u9} {t10:Sort u10} {t11:Sort u11} {t12:Sort u12} {t13:Sort u13} {t14:Sort u14} (P0 P1:t0→t1→t2→t3→t4→t5→t6→t7→t8→t9→t10→t11→t12→t13→t14→Prop):Prop
 | mk (x0:t0) (x1:t1) (x2:t2) (x3:t3) (x4:t4) (x5:t5) (x6:t6) (x7:t7) (x8:t8) (x9:t9) (x10:t10) (x11:t11) (x12:t12) (x13:t13) (x14:t14) (h0:P0 x0 x1 x2 x3 x4 x5 x6 x7 x8 x9 x10 x11 x12 x13 x14) (h1:P1 x0 x1 x2 x3 x4 x5 x6 x7 x8 x9 x10 x11 x12 x13 x14):Ex_15_2 P0 P1
inductive Ex_16_4 {t0:Sort u0} {t1:Sort u1} {t2:Sort u2} {t3:Sort u3} {t4:Sort u4} {t5:Sort u5} {t6:Sort u6} {t7:Sort u7} {t8:Sort u8} {t9:Sort u9} {t10:Sort u10} {t11:Sort u11} {t12:Sort u12} {t13:Sort u13} {t14:Sort u14} {t15:Sort u15} (P0 P1 P2 P3:t0→t1→t2→t3→t4→t5→t6→t7→t8→t9→t10→t11→t12→t13→t14→t15→Prop):Prop
 | mk (x0:t0) (x1:t1) (x2:t2) (x3:t3) (x4:t4) (x5:t5) (x6:t6) (x7:t7) (x8:t8) (x9:t9) (x10:t10) (x11:t11) (x12:t12) (x13:t13) (x14:t14) (x15:t15) (h0:P0 x0 x1 x2 x3 x4 x5 x6 x7 x8 x9 x10 x11 x12 x13 x14 x15) (h1:P1 x0 x1 x2 x3 x4 x5 x6 x7 x8 x9 x10 x11 x12 x13 x14 x15) (h2:P2 x0 x1 x2 x3 x4 x5 x6 x7 x8 x9 x10 x11 x12 x13 x14 x15) (h3:P3 x0 x1 x2 x3 x4 x5 x6 x7 x8 x9 x10 x11 x12 x13 x14 x15):Ex_16_4 P0 P1 P2 P3
inductive Ex_17_4 {t0:Sort u0} {t1:Sort u1} {t2:Sort u2} {t3:Sort u3} {t4:Sort u4} {t5:Sort u5} {t6:Sort u6} {t7:Sort u7} {t8:Sort u8} {t9:Sort u9} {t10:Sort u10} {t11:Sort u11} {t12:Sort u12} {t13:Sort u13} {t14:Sort u14} {t15:Sort u15} {t16:Sort u16} (P0 P1 P2 P3:t0→t1→t2→t3→t4→t5→t6→t7→t8→t9→t10→t11→t12→t13→t14→t15→t16→Prop):Prop
 | mk (x0:t0) (x1:t1) (x2:t2) (x3:t3) (x4:t4) (x5:t5) (x6:t6) (x7:t7) (x8:t8) (x9:t9) (x10:t10) (x11:t11) (x12:t12) (x13:t13) (x14:t14) (x15:t15) (x16:t16) (h0:P0 x0 x1 x2 x3 x4 x5 x6 x7 x8 x9 x10 x11 x12 x13 x14 x15 x16) (h1:P1 x0 x1 x2 x3 x4 x5 x6 x7 x8 x9 x10 x11 x12 x13 x14 x15 x16) (h2:P2 x0 x1 x2 x3 x4 x5 x6 x7 x8 x9 x10 x11 x12 x13 x14 x15 x16) (h3:P3 x0 x1 x2 x3 x4 x5 x6 x7 x8 x9 x10 x11 x12 x13 x14 x15 x16):Ex_17_4 P0 P1 P2 P3
theorem L2.hid {P:Prop} (h:∀ G:Prop,P=G→G):P:=h P rfl
namespace L2
open PySem PySem.Spec PyProof.Rows
noncomputable abbrev Key:=Sum Int Str
noncomputable def keyIs:Key→Value→Bool
 | .inl k,v=>Value.isInt k v
 | .inr x,v=>Value.isStrOf x v
noncomputable def keyH (w:World):Key→Int
 | .inl k=>hashInt k
 | .inr x=>hashStr w x
theorem keyIs_shape:∀ {k:Key} {v:Value},keyIs k v=true→(Ex_2_2 (fun i t=>k=Sum.inl i) (fun i t=>v=Value.int i t))∨(Ex_2_2 (fun x t=>k=Sum.inr x) (fun x t=>v=Value.str x t))
 | .inl i,v,h=>by
  obtain ⟨t,e⟩:=Value.isInt_shape (k:=i) (v:=v) h
  exact .inl ⟨i,t,rfl,e⟩
 | .inr x,v,h=>by
  obtain ⟨t,e⟩:=Value.isStrOf_shape (x:=x) (v:=v) h
  exact .inr ⟨x,t,rfl,e⟩
theorem key_ll (a b:Int):decide ((Sum.inl a:Key)=Sum.inl b)=(a == b):=by
 by_cases e:a=b
 ·subst e; simp
 ·have h:¬ (Sum.inl a:Key)=Sum.inl b:=fun q=>e (Sum.inl.inj q)
  rw [decide_eq_false h]
  exact (beq_eq_false_iff_ne.mpr e).symm
theorem key_rr (a b:Str):decide ((Sum.inr a:Key)=Sum.inr b)=decide (a=b):=by
 by_cases e:a=b
 ·subst e; simp
 ·have h:¬ (Sum.inr a:Key)=Sum.inr b:=fun q=>e (Sum.inr.inj q)
  rw [decide_eq_false h,decide_eq_false e]
theorem key_lr (a:Int) (b:Str):decide ((Sum.inl a:Key)=Sum.inr b)=false:=decide_eq_false (fun q=>nomatch q)
theorem key_rl (a:Str) (b:Int):decide ((Sum.inr a:Key)=Sum.inl b)=false:=decide_eq_false (fun q=>nomatch q)
noncomputable def mixKind (prog:Program) (w:World):PySem.KeyKind prog w Key where
 is:=keyIs
 hash:=keyH w
 inj:=fun v a b ha hb=>by
  rcases keyIs_shape ha with ⟨i,t,rfl,rfl⟩ | ⟨x,t,rfl,rfl⟩
  ·rcases keyIs_shape hb with ⟨j,u,rfl,e⟩ | ⟨y,u,rfl,e⟩
   ·injection e with e1 _; rw [e1]
   ·exact nomatch e
  ·rcases keyIs_shape hb with ⟨j,u,rfl,e⟩ | ⟨y,u,rfl,e⟩
   ·exact nomatch e
   ·injection e with e1 _; rw [e1]
 byValue:=fun k v h=>by
  rcases keyIs_shape h with ⟨i,t,rfl,rfl⟩ | ⟨x,t,rfl,rfl⟩ <;> rfl
 pyHash:=fun hv h=>by
  rcases keyIs_shape hv with ⟨i,t,rfl,rfl⟩ | ⟨x,t,rfl,rfl⟩
  ·exact wpAny_pyHash_int h
  ·exact wpAny_pyHash_str h
 eqBool:=fun hu hv h=>by
  rcases keyIs_shape hu with ⟨i,t,rfl,rfl⟩ | ⟨x,t,rfl,rfl⟩
  ·rcases keyIs_shape hv with ⟨j,u,rfl,rfl⟩ | ⟨y,u,rfl,rfl⟩
   ·rw [key_ll] at h; exact wpAny_eqBool_int h
   ·rw [key_lr] at h; exact SeqAt.EqAt.int_str i t y u _ _ _ _ h
  ·rcases keyIs_shape hv with ⟨j,u,rfl,rfl⟩ | ⟨y,u,rfl,rfl⟩
   ·rw [key_rl] at h; exact SeqAt.EqAt.str_int x t j u _ _ _ _ h
   ·rw [key_rr] at h; exact wpAny_eqBool_str h
 «strs»:=fun k x t v h=>by
  rcases keyIs_shape h with ⟨i,u,rfl,e⟩ | ⟨y,u,rfl,e⟩
  ·exact nomatch e
  ·injection e with e1 _
   subst e1
   cases v <;> rfl
end L2
namespace L2
open PySem PySem.Spec PyProof.Rows
inductive V where
 | non | bl (b:Bool) | int (i:Int) | str (x:Str) | byt (b:Array UInt8) | flt (b:UInt64) | ref (a:Addr) | ty (n:String)
 deriving DecidableEq
noncomputable def RelV:V→Value→Prop
 | .non,u=>u=Value.none
 | .bl b,u=>u=Value.bool b
 | .int i,u=>∃ t,u=Value.int i t
 | .str x,u=>∃ t,u=Value.str x t
 | .byt b,u=>∃ t,u=Value.bytes b t
 | .flt b,u=>∃ t,u=Value.float b t
 | .ref a,u=>u=Value.ref a
 | .ty n,u=>u=Value.type n
noncomputable abbrev Vals:List V→List Value→Prop:=Paired RelV
theorem Vals.length {xs:List V} {us:List Value} (r:Vals xs us):xs.length=us.length:=Paired.length r
theorem Vals.get:∀ {xs:List V} {us:List Value} {i:Nat} {x:V},Vals xs us→xs[i]?=some x→∃ u,us[i]?=some u∧RelV x u
 | _,_,_,_,.nil,e=>by simp at e
 | _,_,0,_,.cons r _,e=>by simp at e; subst e; exact ⟨_,rfl,r⟩
 | _,_,i + 1,x,.cons _ t,e=>by
  obtain ⟨u,h1,h2⟩:=Vals.get (i:=i) (x:=x) t (by simpa using e)
  exact ⟨u,by simpa using h1,h2⟩
theorem Vals.set {x:V} {u:Value} (r:RelV x u):∀ {xs:List V} {us:List Value} (i:Nat),Vals xs us→Vals (xs.set i x) (us.set i u)
 | _,_,_,.nil=>.nil
 | _,_,0,.cons _ t=>.cons r t
 | _,_,i + 1,.cons q t=>.cons q (Vals.set r i t)
theorem Vals.append {xs ys:List V} {us ws:List Value} (h:Vals xs us) (g:Vals ys ws):Vals (xs ++ ys) (us ++ ws):=by
 induction h with
 | nil=>exact g
 | cons r t ih=>exact .cons r ih
theorem Vals.take:∀ {xs:List V} {us:List Value} (n:Nat),Vals xs us→Vals (xs.take n) (us.take n)
 | _,_,0,_=>.nil
 | _,_,_ + 1,.nil=>.nil
 | _,_,n + 1,.cons r t=>.cons r (Vals.take n t)
theorem Vals.drop:∀ {xs:List V} {us:List Value} (n:Nat),Vals xs us→Vals (xs.drop n) (us.drop n)
 | _,_,0,r=>r
 | _,_,_ + 1,.nil=>.nil
 | _,_,n + 1,.cons _ t=>Vals.drop n t
theorem Vals.none_of:∀ {xs:List V} {us:List Value} {i:Nat},Vals xs us→xs[i]?=none→us[i]?=none:=fun {xs us i} r e=>by
 have h1:=r.length
 have h2:xs.length≤i:=List.getElem?_eq_none_iff.mp e
 exact List.getElem?_eq_none_iff.mpr (by lia)
noncomputable def RelO:Option V→Option Value→Prop
 | some v,some u=>RelV v u
 | none,none=>True
 | _,_=>False
noncomputable def KV {κ:Type}:List (κ×V)→List (κ×Value)→Prop:=Paired fun (p:κ×V) (q:κ×Value)=>p.1=q.1∧RelV p.2 q.2
noncomputable def kV:Key→V
 | .inl i=>.int i
 | .inr x=>.str x
inductive HO where
 | lst (xs:List V)
 | tup (xs:List V)
 | dK (kvs:List (Key×V)) | dT (kvs:List (List Key×V))
 | set (S:Int→Bool) (n:Nat)
 | ins (C dx:Addr) (fs:List (Str×V))
 | own (x:Addr)
 | xd (fs:List (Str×V))
 | met (f x:Addr)
 | rng (lo hi:Int)
 | frz (o:Obj) (u:HO)
 | tbl (ps:Array Value)
 | ext (φ:Heap→Prop)
noncomputable abbrev Hp:=Addr→Option HO
noncomputable def upd (H:Hp) (a:Addr) (o:HO):Hp:=fun b=>if b=a then some o else H b
theorem upd_same {H:Hp} {a:Addr} {o:HO}:upd H a o a=some o:=by unfold upd; rw [if_pos rfl]
theorem upd_ne {H:Hp} {a b:Addr} {o:HO} (h:b≠a):upd H a o b=H b:=by unfold upd; rw [if_neg h]
theorem ne_of {H:Hp} {a b:Addr} {o u:HO} (h:H a=some o) (h':H b=some u) (d:o≠u):a≠b:=by
 intro e; subst e; rw [h] at h'; exact d (Option.some.inj h')
theorem ne_of_none {H:Hp} {a b:Addr} {o:HO} (h:H a=some o) (h':H b=none):a≠b:=by
 intro e; subst e; rw [h] at h'; cases h'
section
variable (P:Program) (w:World)
noncomputable def ObjOk (H:Hp) (h:Heap) (a:Addr):HO→Prop
 | .lst xs=>xs.length≤sizeLine∧∃ (its:List Value) (n:Nat),Vals xs its∧h.get? a=some { cls:=.type "list",data:=.seq its.toArray n }
 | .tup xs=>xs.length≤sizeLine∧∃ its:List Value,Vals xs its∧IsTup h a its.toArray
 | .dK kvs=>kvs.length≤sizeLine∧(a == sysModules)=false∧∃ vs,KV kvs vs∧h.DictOf (mixKind P w) a vs
 | .dT kvs=>kvs.length≤sizeLine∧(a == sysModules)=false∧∃ xs:List (List Key×Addr×Value),
   Paired (fun (p:List Key×V) (q:List Key×Addr×Value)=>p.1=q.1∧H q.2.1=some (.tup (p.1.map kV))∧RelV p.2 q.2.2) kvs xs ∧
   ∃ o es ep,h.get? a=some o∧o.ExactDict∧o.data=.dict es ep∧es.toList=xs.map (entryOfKey (tupleKind (mixKind P w)))∧(xs.map (·.1)).Nodup
 | .set S n=>h.SetOf (intKind P w) a S n
 | .ins C dx fs=>H dx=some (.own a)∧fs.length≤1000∧dx≠a∧h.get? a=some (PySem.W.instObj C dx) ∧
   ∃ mA,h.Ns1 dx mA∧(∀ f,RelO (fs.lookup f) (mA f))∧PySem.Within mA (fs.map (·.1))
 | .own _=>∃ o,h.get? a=some o
 | .xd fs=>∃ mA,h.Ns1 a mA∧∀ f,RelO (fs.lookup f) (mA f)
 | .rng lo hi=>∃ t u v,h.get? a=some { cls:=.type "range",data:=.fields #[.int lo t,.int hi u,.int 1 v] }
 | .frz o u=>h.get? a=some o∧ObjOk H h a u
 | .tbl ps=>h.get? a=some { cls:=.none,data:=.fields ps }
 | .met f x=>h.get? a=some (PySem.W.methodObj (.ref f) (.ref x))
 | .ext φ=>φ h∧(∃ o,h.get? a=some o)∧∀ h1 h2:Heap,φ h1→(∀ o,h1.get? a=some o→h2.get? a=some o)→φ h2
noncomputable def HOk (H:Hp) (h:Heap):Prop:=∀ a o,H a=some o→ObjOk P w H h a o
end
section
variable {P:Program} {w:World} {H H':Hp} {h h':Heap} {a:Addr} {o:HO}
theorem ObjOk.lt (x:ObjOk P w H h a o):a < h.objs.size:=by
 cases o with
 | lst xs=>obtain ⟨_,_,_,_,e⟩:=x; exact Heap.lt_size e
 | tup xs=>obtain ⟨_,_,_,p⟩:=x; exact p.lt
 | dK kvs=>obtain ⟨_,_,_,_,o,_,_,e,_⟩:=x; exact Heap.lt_size e
 | dT kvs=>obtain ⟨_,_,_,_,o,_,_,e,_⟩:=x; exact Heap.lt_size e
 | set S n=>obtain ⟨o,_,_,_,e,_⟩:=x; exact Heap.lt_size e
 | ins C dx fs=>obtain ⟨_,_,_,e,_⟩:=x; exact Heap.lt_size e
 | own y=>obtain ⟨_,e⟩:=x; exact Heap.lt_size e
 | xd fs=>obtain ⟨_,⟨_,_,_,e,_⟩,_⟩:=x; exact Heap.lt_size e
 | rng lo hi=>obtain ⟨_,_,_,e⟩:=x; exact Heap.lt_size e
 | frz ob u=>obtain ⟨e,_⟩:=x; exact Heap.lt_size e
 | tbl ps=>exact Heap.lt_size (show h.get? a=some _ from x)
 | met f y=>exact Heap.lt_size (show h.get? a=some _ from x)
 | ext φ=>obtain ⟨_,⟨_,e⟩,_⟩:=x; exact Heap.lt_size e
theorem Paired.mapP {α β:Type} {F G:α→β→Prop} {l₁:List α} {l₂:List β} (h:Paired F l₁ l₂) (f:∀ a b,F a b→G a b):Paired G l₁ l₂:=by
 induction h with
 | nil=>exact .nil
 | cons r t ih=>exact .cons (f _ _ r) ih
theorem ObjOk.stay (x:ObjOk P w H h a o) (k:∀ b u,(b=a∨H b=some (.own a))→h.get? b=some u→h'.get? b=some u)
  (ho:∀ b,H b=some (.own a)→H' b=some (.own a)) (ht:∀ b xs,H b=some (.tup xs)→H' b=some (.tup xs)):ObjOk P w H' h' a o:=by
 induction o with
 | lst xs=>obtain ⟨z,its,n,r,e⟩:=x; exact ⟨z,its,n,r,k _ _ (.inl rfl) e⟩
 | tup xs=>obtain ⟨z,its,r,ob,e,c⟩:=x; exact ⟨z,its,r,ob,k _ _ (.inl rfl) e,c⟩
 | dK kvs=>obtain ⟨z,y,vs,r,ob,es,ep,e,c⟩:=x; exact ⟨z,y,vs,r,ob,es,ep,k _ _ (.inl rfl) e,c⟩
 | dT kvs =>
  obtain ⟨z,y,xs,r,ob,es,ep,e,c⟩:=x
  exact ⟨z,y,xs,Paired.mapP r fun p q z=>⟨z.1,ht _ _ z.2.1,z.2.2⟩,ob,es,ep,k _ _ (.inl rfl) e,c⟩
 | set S n=>obtain ⟨ob,es,ep,t,e,c⟩:=x; exact ⟨ob,es,ep,t,k _ _ (.inl rfl) e,c⟩
 | ins C dx fs =>
  obtain ⟨d,z,ne,e,mA,⟨od,es,ep,e2,c⟩,r⟩:=x
  exact ⟨ho _ d,z,ne,k _ _ (.inl rfl) e,mA,⟨od,es,ep,k _ _ (.inr d) e2,c⟩,r⟩
 | own y=>obtain ⟨ob,e⟩:=x; exact ⟨ob,k _ _ (.inl rfl) e⟩
 | xd fs=>obtain ⟨mA,⟨od,es,ep,e,c⟩,r⟩:=x; exact ⟨mA,⟨od,es,ep,k _ _ (.inl rfl) e,c⟩,r⟩
 | rng lo hi=>obtain ⟨t,u,v,e⟩:=x; exact ⟨t,u,v,k _ _ (.inl rfl) e⟩
 | frz ob u ih=>obtain ⟨e,q⟩:=x; exact ⟨k _ _ (.inl rfl) e,ih q⟩
 | tbl ps =>
  have e:h.get? a=some { cls:=.none,data:=.fields ps }:=x
  show h'.get? a=some { cls:=.none,data:=.fields ps }
  exact k a _ (.inl rfl) e
 | met f y =>
  have e:h.get? a=some (PySem.W.methodObj (.ref f) (.ref y)):=x
  show h'.get? a=some (PySem.W.methodObj (.ref f) (.ref y))
  exact k a _ (.inl rfl) e
 | ext φ=>obtain ⟨p,⟨o,e⟩,st⟩:=x; exact ⟨st _ _ p fun o q=>k _ _ (.inl rfl) q,⟨o,k _ _ (.inl rfl) e⟩,st⟩
theorem HOk.lt (x:HOk P w H h) (e:H a=some o):a < h.objs.size:=(x a o e).lt
theorem HOk.fresh (x:HOk P w H h) (e:h.objs.size≤a):H a=none:=by
 cases q:H a with
 | none=>rfl
 | some u=>exact absurd (Nat.lt_of_lt_of_le (x.lt q) e) (Nat.lt_irrefl _)
theorem HOk.kept (x:HOk P w H h) (k:∀ b u,h.get? b=some u→h'.get? b=some u):HOk P w H h':=fun a o e =>
 (x a o e).stay (fun b u _ q=>k b u q) (fun _ q=>q) fun _ _ q=>q
theorem HOk.laid (x:HOk P w H h) (k:∀ b u,h.get? b=some u→h'.get? b=some u) (hp:h.objs.size≤a) (new:ObjOk P w (upd H a o) h' a o):HOk P w (upd H a o) h':=fun b u e=>by
 have hn:=x.fresh hp
 by_cases hb:b=a
 ·subst hb; rw [upd_same] at e; cases e; exact new
 ·rw [upd_ne hb] at e
  exact (x b u e).stay (fun c v _ q=>k c v q) (fun c q=>by rw [upd_ne (ne_of_none q hn)]; exact q) fun c xs q=>by rw [upd_ne (ne_of_none q hn)]; exact q
end
noncomputable def Rd (H:Hp) (a:Addr) (u:HO):Prop:=H a=some u∨∃ o,H a=some (.frz o u)
theorem Rd.of {H:Hp} {a:Addr} {u:HO} (h:H a=some u):Rd H a u:=.inl h
theorem Rd.ok {P:Program} {w:World} {H:Hp} {h:Heap} {a:Addr} {u:HO} (r:Rd H a u) (x:HOk P w H h):ObjOk P w H h a u:=by
 rcases r with r | ⟨o,r⟩
 ·exact x a u r
 ·obtain ⟨_,q⟩:=x a _ r
  exact q
noncomputable def Mut:Option HO→Prop
 | some (.lst _)=>True
 | some (.dK _)=>True
 | some (.dT _)=>True
 | some (.set _ _)=>True
 | some (.ins _ _ _)=>True
 | some (.ext _)=>True
 | _=>False
section
variable {P:Program} {w:World} {H:Hp} {h h':Heap} {x e:Addr} {o':HO}
theorem HOk.write (ok:HOk P w H h) (mu:Mut (H x)) (he:e=x∨H e=some (.own x)) (k:∀ b u,b≠e→h.get? b=some u→h'.get? b=some u) (heo:∃ u,h'.get? e=some u)
  (new:ObjOk P w (upd H x o') h' x o'):HOk P w (upd H x o') h':=fun b u q=>by
 have nown:∀ c y,H c=some (.own y)→c≠x:=fun c y r z=>by subst z; rw [r] at mu; exact mu
 have ntup:∀ c xs,H c=some (.tup xs)→c≠x:=fun c xs r z=>by subst z; rw [r] at mu; exact mu
 by_cases hb:b=x
 ·subst hb; rw [upd_same] at q; cases q; exact new
 ·rw [upd_ne hb] at q
  by_cases hbe:b=e
  ·have q':H b=some (.own x):=by
    rcases he with z | z
    ·exact absurd (hbe.trans z) hb
    ·rw [hbe]; exact z
   rw [q] at q'; cases q'
   obtain ⟨v,hv⟩:=heo
   exact ⟨v,by rw [hbe]; exact hv⟩
  ·refine (ok b u q).stay (fun c v hc r=>k c v ?_ r) (fun c r=>by rw [upd_ne (nown c b r)]; exact r) fun c xs r=>by rw [upd_ne (ntup c xs r)]; exact r
   rcases hc with rfl | hc
   ·exact hbe
   ·rintro rfl
    rcases he with z | z
    ·exact nown c b hc z
    ·rw [hc] at z; cases z; exact hb rfl
end
structure Un (fs ex:List Addr) (H H':Hp) (h h':Heap):Prop where
 keep:∀ b o,h.get? b=some o→H b=none→b ∉ fs→b ∉ ex→h'.get? b=some o
 slot:∀ b o,h.get? b=some o→H b=none→b∈fs→b ∉ ex→∃ sl,h'.get? b=some { o with slots:=sl }
 free:∀ b o,h.get? b=some o→H b=none→b ∉ ex→H' b=none
 there:∀ b o,h.get? b=some o→b ∉ ex→∃ o',h'.get? b=some o'
 tups:∀ b xs,H b=some (.tup xs)→H' b=some (.tup xs)
 frzs:∀ b o u,H b=some (.frz o u)→H' b=some (.frz o u)
 tbls:∀ b ps,H b=some (.tbl ps)→∃ more,H' b=some (.tbl (ps ++ more))
section
variable {fs fs' ex ex':List Addr} {H H1 H2:Hp} {h h1 h2 h':Heap} {a x e:Addr} {o:HO}
theorem Un.any (u:Un fs ex H H1 h h1) {b:Addr} {ob:Obj} (q:h.get? b=some ob) (n:H b=none) (hx:b ∉ ex):∃ sl,h1.get? b=some { ob with slots:=sl }:=by
 by_cases hb:b∈fs
 ·exact u.slot b ob q n hb hx
 ·exact ⟨ob.slots,u.keep b ob q n hb hx⟩
theorem Un.trans (a:Un fs ex H H1 h h1) (b:Un fs ex H1 H2 h1 h2):Un fs ex H H2 h h2 where
 keep:=fun c ob q n hc hx=>b.keep c ob (a.keep c ob q n hc hx) (a.free c ob q n hx) hc hx
 slot:=fun c ob q n hc hx=>by
  obtain ⟨sl,e1⟩:=a.slot c ob q n hc hx
  obtain ⟨sl',e2⟩:=b.slot c _ e1 (a.free c ob q n hx) hc hx
  exact ⟨sl',e2⟩
 free:=fun c ob q n hx=>by
  obtain ⟨o',e1⟩:=a.there c ob q hx
  exact b.free c o' e1 (a.free c ob q n hx) hx
 there:=fun c ob q hx=>by
  obtain ⟨o',e1⟩:=a.there c ob q hx
  exact b.there c o' e1 hx
 tups:=fun c xs q=>b.tups c xs (a.tups c xs q)
 frzs:=fun c ob xs q=>b.frzs c ob xs (a.frzs c ob xs q)
 tbls:=fun c ps q=>by
  obtain ⟨m1,e1⟩:=a.tbls c ps q
  obtain ⟨m2,e2⟩:=b.tbls c _ e1
  exact ⟨m1 ++ m2,by rw [e2,Array.append_assoc]⟩
theorem Un.kept (k:∀ b u,h.get? b=some u→h'.get? b=some u):Un fs ex H H h h' :=
 ⟨fun b ob q _ _ _=>k b ob q,fun b ob q _ _ _=>⟨ob.slots,k b ob q⟩,fun _ _ _ n _=>n,fun b ob q _=>⟨ob,k b ob q⟩,fun _ _ q=>q,fun _ _ _ q=>q,fun _ ps q=>⟨#[],by rw [q]; simp⟩⟩
theorem Un.refl:Un fs ex H H h h:=Un.kept fun _ _ q=>q
theorem Un.laid (k:∀ b u,h.get? b=some u→h'.get? b=some u) (hp:h.objs.size≤a) (hn:H a=none):Un fs ex H (upd H a o) h h' where
 keep:=fun b u q _ _ _=>k b u q
 slot:=fun b u q _ _ _=>⟨u.slots,k b u q⟩
 free:=fun b u q n _=>by rw [upd_ne (Nat.ne_of_lt (Nat.lt_of_lt_of_le (Heap.lt_size q) hp))]; exact n
 there:=fun b u q _=>⟨u,k b u q⟩
 tups:=fun b xs q=>by rw [upd_ne (ne_of_none q hn)]; exact q
 frzs:=fun b u xs q=>by rw [upd_ne (ne_of_none q hn)]; exact q
 tbls:=fun b ps q=>⟨#[],by rw [upd_ne (ne_of_none q hn),q]; simp⟩
theorem Un.write (mu:Mut (H x)) (he:e=x∨H e=some (.own x)) (k:∀ b u,b≠e→h.get? b=some u→h'.get? b=some u) (heo:∃ u,h'.get? e=some u):Un fs ex H (upd H x o) h h':=by
 have hx:∀ b,H b=none→b≠x:=fun b n z=>by subst z; rw [n] at mu; exact mu
 have hb:∀ b,H b=none→b≠e:=fun b n z=>by
  subst z
  rcases he with r | r
  ·exact hx b n r
  ·rw [n] at r; cases r
 have hm:∀ b u,H b=some u→¬ Mut (some u)→b≠x:=fun b u q nm z=>by subst z; rw [q] at mu; exact nm mu
 refine ⟨fun b u q n _ _=>k b u (hb b n) q,fun b u q n _ _=>⟨u.slots,k b u (hb b n) q⟩,fun b u q n _=>by rw [upd_ne (hx b n)]; exact n,fun b u q _=>?_,
  fun b xs q=>by rw [upd_ne (hm b _ q fun z=>z)]; exact q,fun b u xs q=>by rw [upd_ne (hm b _ q fun z=>z)]; exact q,fun b ps q=>⟨#[],by rw [upd_ne (hm b _ q fun z=>z),q]; simp⟩⟩
 by_cases hbe:b=e
 ·subst hbe; exact heo
 ·exact ⟨u,k b u hbe q⟩
theorem Un.mono (u:Un fs ex H H1 h h1) (hs:∀ b∈fs,b∈fs') (hx:∀ b∈ex,b∈ex'):Un fs' ex' H H1 h h1 :=
 ⟨fun b ob q n hb he=>u.keep b ob q n (fun z=>hb (hs b z)) fun z=>he (hx b z),fun _ _ q n _ he=>u.any q n fun z=>he (hx _ z),fun b ob q n he=>u.free b ob q n fun z=>he (hx b z),fun b ob q he=>u.there b ob q fun z=>he (hx b z),u.tups,u.frzs,u.tbls⟩
end
noncomputable def trk (h:Heap) (H:Hp):List Addr:=(List.range h.objs.size).filter fun a=>(H a).isSome
noncomputable def hidT (h:Heap) (H:Hp):Heap:=PySem.W.hideAll h (trk h H)
theorem hidT_size (h:Heap) (H:Hp):(hidT h H).objs.size=h.objs.size:=PySem.W.hideAll_size _ _
theorem hidT_get {h:Heap} {H:Hp} {b:Addr} {o:Obj} (e:h.get? b=some o) (n:H b=none):(hidT h H).get? b=some o :=
 PySem.W.hideAll_get _ e fun hm=>by
  have q:(H b).isSome=true:=(List.mem_filter.mp hm).2
  rw [n] at q; simp at q
theorem of_hidT {h:Heap} {H:Hp} {b:Addr} {o:Obj} (e:(hidT h H).get? b=some o):h.get? b=some o∧H b=none:=by
 have e':h.get? b=some o:=PySem.W.of_hideAll (trk h H) e
 refine ⟨e',?_⟩
 cases q:H b with
 | none=>rfl
 | some x =>
  have hm:b∈trk h H:=List.mem_filter.mpr ⟨List.mem_range.mpr (Heap.lt_size e'),by simp [q]⟩
  have z:(hidT h H).get? b=none:=PySem.W.hideAll_none (trk h H) hm
  rw [z] at e; cases e
noncomputable def allNews (g h:Heap) (L:Addr):List (Addr×Obj):=(List.range h.objs.size).filterMap fun a=>if a=L∨(g.get? a).isSome=true then none else (h.get? a).map fun o=>(a,o)
noncomputable def rest (g h:Heap) (L d:Addr):List (Addr×Obj):=(allNews g h L).filter fun p=>decide (p.1≠d)
end L2
namespace L2
open PySem PySem.Spec PyProof.Rows
structure Mod (K:PySem.W.Frag) (mg:Str→Option Value) (base:Heap):Prop where
 kin:K.In base
 glob:base.Ns mainGlobals mg
 blt:∃ mb,base.Ns builtinsNs mb∧∀ x:Str,x≠"__name__"→mb x=bootBuiltins x
 nolimit:base.NoLimit
structure Cx where
 prog:Program
 w:World
 K:PySem.W.Frag
 mg:Str→Option Value
 base:Heap
 A:Around
 N:List Str
 s₀:Shared
 H₀:Hp
 env:Env
 outer:List Env
 stack:List Env
 ex:List Addr
 fn:Str→Bool
 calm:Bool
 pn:List (Addr×Obj)
 xe:Value→Shared→Prop
noncomputable def frs (l:List Env):List Addr:=l.filterMap (·.frame)
noncomputable abbrev Cx.fs (X:Cx):List Addr:=frs X.outer
noncomputable def Vis (sc:Scope) (x:Str):Prop:=sc.names.lookup x=some .local∨sc.names.lookup x=some .cell∨sc.names.lookup x=some .free
noncomputable def Loc (sc:Scope) (x:Str):Prop:=sc.names.lookup x=some .local∨sc.names.lookup x=some .cell
noncomputable def Look (env:Env) (h:Heap) (m:Str→Option Value) (x:Str) (u:Value):Prop :=
 (env.kindOf x=some .local∧m x=some u)∨((env.kindOf x=some .cell∨env.kindOf x=some .free)∧∃ c,env.cells.lookup x=some c∧h.IsCell c (some u))
structure Cx.Ok (X:Cx):Prop where
 mod:Mod X.K X.mg X.base
 kind:X.env.scope.kind=.function
 glob:X.env.globals=mainGlobals
 blt:X.env.builtins=builtinsNs
 above:X.s₀.heap.objs.size≤X.env.locals
 inj:∀ x y c,X.env.cells.lookup x=some c→X.env.cells.lookup y=some c→x=y
 has:∀ x,(X.env.kindOf x=some .cell∨X.env.kindOf x=some .free)→∃ c,X.env.cells.lookup x=some c
 cab:∀ x c,X.fn x=true→X.env.cells.lookup x=some c→X.s₀.heap.objs.size≤c
 hd:X.calm=true→X.A.handled=none
 frames:X.A.frames=some X.stack
 stk:X.stack=X.outer∨(X.stack=X.env :: X.outer∧X.env.frame=some X.env.locals)
 exf:∀ b∈X.ex,b≠X.env.locals∧∀ x c,X.env.cells.lookup x=some c→c≠b
 bs:∀ b o,X.base.get? b=some o→X.s₀.heap.get? b=some o∧X.H₀ b=none
 bsz:X.base.objs.size≤X.s₀.heap.objs.size
 noex:∀ b o,X.base.get? b=some o→b ∉ X.ex
 exfs:∀ b∈X.ex,b ∉ X.fs
 funs:X.s₀.heap.FunFrames X.base X.outer
 frf:∀ b∈X.fs,X.H₀ b=none
structure Inv (X:Cx) (pins:List (Addr×Obj)) (σ:List (Option V)) (H:Hp) (s:Shared):Prop where
 ok:X.Ok
 os:s.os=X.s₀.os
 bare:AllBare s.gens
 base:Un X.fs X.ex X.H₀ H X.s₀.heap s.heap
 loc:∃ m,s.heap.Ns X.env.locals m∧∀ (i:Nat) (x:Str) (v:V),X.N[i]?=some x→σ[i]?=some (some v)→Vis X.env.scope x→∃ u,RelV v u∧Look X.env s.heap m x u
 cell:∀ x c,X.env.cells.lookup x=some c→∃ v,s.heap.IsCell c v
 free:H X.env.locals=none
 freeC:∀ x c,X.env.cells.lookup x=some c→H c=none
 pin:∀ p∈X.pn ++ pins,s.heap.get? p.1=some p.2∧H p.1=none∧p.1≠X.env.locals∧p.1 ∉ X.fs∧∀ v,p.2.data≠.cell v
 hok:HOk X.prog X.w H s.heap
 len:σ.length=X.N.length
section
variable {X:Cx} {pins:List (Addr×Obj)} {σ:List (Option V)} {H H':Hp} {s:Shared} {h':Heap}
theorem Cx.Ok.nofr (ok:X.Ok) {b:Addr} {o:Obj} (e:X.base.get? b=some o):b ∉ X.fs:=fun hb=>by
 have:=(ok.funs.mem hb).1
 rw [e] at this; cases this
theorem Inv.bs (I:Inv X pins σ H s):∀ b o,X.base.get? b=some o→s.heap.get? b=some o∧H b=none:=fun b o e =>
 ⟨I.base.keep b o (I.ok.bs b o e).1 (I.ok.bs b o e).2 (I.ok.nofr e) (I.ok.noex b o e),I.base.free b o (I.ok.bs b o e).1 (I.ok.bs b o e).2 (I.ok.noex b o e)⟩
theorem Inv.bk (I:Inv X pins σ H s):∀ b o,X.base.get? b=some o→s.heap.get? b=some o:=fun b o e=>(I.bs b o e).1
theorem Inv.mod (I:Inv X pins σ H s):Mod X.K X.mg X.base:=I.ok.mod
theorem Inv.kIn (I:Inv X pins σ H s):X.K.In s.heap:=I.ok.mod.kin.keeps I.bk
theorem Inv.nolimit (I:Inv X pins σ H s):s.heap.NoLimit:=I.ok.mod.nolimit.keeps I.bk
theorem Inv.fr (I:Inv X pins σ H s):∃ m,Fr X.base X.env.locals s.heap m :=
 let ⟨m,hn,_⟩:=I.loc
 ⟨m,hn,I.bk,Nat.le_trans I.ok.bsz I.ok.above⟩
theorem Inv.lt (I:Inv X pins σ H s):X.env.locals < s.heap.objs.size:=let ⟨_,hn,_⟩:=I.loc; hn.lt
theorem Inv.sz (I:Inv X pins σ H s):X.s₀.heap.objs.size≤s.heap.objs.size:=Nat.le_trans I.ok.above (Nat.le_of_lt I.lt)
theorem Inv.nofs (I:Inv X pins σ H s) {a:Addr} (h:s.heap.objs.size≤a):a ∉ X.fs:=fun hb=>by
 obtain ⟨_,o,ho,_⟩:=I.ok.funs.mem hb
 exact absurd (Nat.lt_of_lt_of_le (Heap.lt_size ho) (Nat.le_trans I.sz h)) (Nat.lt_irrefl _)
theorem Inv.cne (I:Inv X pins σ H s):∀ x c,X.env.cells.lookup x=some c→c≠X.env.locals:=fun x c e z=>by
 obtain ⟨v,o,ho,hd⟩:=I.cell x c e
 obtain ⟨m,⟨o',es,ep,ho',hd',_⟩,_⟩:=I.loc
 rw [z,ho'] at ho; cases ho; rw [hd'] at hd; cases hd
theorem Inv.funs (I:Inv X pins σ H s):s.heap.FunFrames X.base X.outer:=by
 have all:∀ (l:List Env),(∀ b∈frs l,b∈X.fs)→X.s₀.heap.FunFrames X.base l→s.heap.FunFrames X.base l:=by
  intro l
  induction l with
  | nil=>intro _ _; trivial
  | cons env r ih =>
   intro hs hl
   obtain ⟨hk,⟨L,o,hf,hn,ho,hd⟩,hr⟩:=hl
   have hL:L∈X.fs:=hs L (by unfold frs; rw [List.filterMap_cons,hf]; exact List.mem_cons_self)
   obtain ⟨sl,e⟩:=I.base.slot L o ho (I.ok.frf L hL) hL fun z=>I.ok.exfs L z hL
   exact ⟨hk,⟨L,_,hf,hn,e,hd⟩,ih (fun b hb=>hs b (by unfold frs; rw [List.filterMap_cons,hf]; exact List.mem_cons_of_mem _ hb)) hr⟩
 exact all X.outer (fun _ hb=>hb) I.ok.funs
theorem Inv.stack (I:Inv X pins σ H s):s.heap.FunFrames X.base X.stack:=by
 rcases I.ok.stk with e | ⟨e,hf⟩
 ·rw [e]; exact I.funs
 ·rw [e]
  obtain ⟨m,hn,_⟩:=I.loc
  refine .cons (by rw [I.ok.kind]; decide) hf hn ?_ I.funs
  exact Heap.get?_none_of_le (Nat.le_trans I.ok.bsz I.ok.above)
theorem Inv.stkSub (I:Inv X pins σ H s):∀ b∈frs X.stack,b∈X.env.locals :: X.fs:=fun b hb=>by
 rcases I.ok.stk with e | ⟨e,hf⟩
 ·rw [e] at hb; exact List.mem_cons_of_mem _ hb
 ·rw [e] at hb
  unfold frs at hb
  rw [List.filterMap_cons,hf] at hb
  exact hb
theorem Inv.stkFree (I:Inv X pins σ H s):∀ b∈frs X.stack,H b=none:=fun b hb=>by
 rcases List.mem_cons.mp (I.stkSub b hb) with e | hb
 ·rw [e]; exact I.free
 ·obtain ⟨_,o,ho,_⟩:=I.ok.funs.mem hb
  exact I.base.free b o ho (I.ok.frf b hb) fun z=>I.ok.exfs b z hb
theorem Inv.step {g':Array GenState} {t':Nat} {d':Drawn} {ch:List Addr} (I:Inv X pins σ H s)
  (hch:∀ b∈ch,(b∈X.ex∨X.s₀.heap.objs.size≤b)∧b≠X.env.locals∧(∀ x c,X.env.cells.lookup x=some c→c≠b)∧∀ p∈X.pn ++ pins,p.1≠b)
  (keep:∀ b o,b≠X.env.locals→b ∉ X.fs→b ∉ ch→s.heap.get? b=some o→H b=none→h'.get? b=some o)
  (slot:∀ b o,b≠X.env.locals→b∈X.fs→b ∉ ch→s.heap.get? b=some o→H b=none→∃ sl,h'.get? b=some { o with slots:=sl }) (free:∀ b o,b ∉ ch→s.heap.get? b=some o→H b=none→H' b=none)
  (there:∀ b o,b ∉ ch→s.heap.get? b=some o→∃ o',h'.get? b=some o')
  (tups:∀ b xs,H b=some (.tup xs)→H' b=some (.tup xs)) (frzs:∀ b o u,H b=some (.frz o u)→H' b=some (.frz o u)) (tbls:∀ b ps,H b=some (.tbl ps)→∃ more,H' b=some (.tbl (ps ++ more)))
  (ns:∀ m,s.heap.Ns X.env.locals m→h'.Ns X.env.locals m) (hok:HOk X.prog X.w H' h') (hg:AllBare g') :
  Inv X pins σ H' { s with heap:=h',gens:=g',drawn:=d',toks:=t' }:=by
 have neL:∀ b o,X.s₀.heap.get? b=some o→b≠X.env.locals:=fun b o e=>Nat.ne_of_lt (Nat.lt_of_lt_of_le (Heap.lt_size e) I.ok.above)
 have neC:∀ b o,X.s₀.heap.get? b=some o→b ∉ X.ex→b ∉ ch:=fun b o e hx hb=>by
  rcases (hch b hb).1 with z | z
  ·exact hx z
  ·exact absurd (Nat.lt_of_lt_of_le (Heap.lt_size e) z) (Nat.lt_irrefl _)
 have cellK:∀ x c,X.env.cells.lookup x=some c→∀ v,s.heap.IsCell c v→h'.IsCell c v:=fun x c e v ⟨o,ho,hd⟩=>by
  have nch:c ∉ ch:=fun z=>(hch c z).2.2.1 x c e rfl
  by_cases hc:c∈X.fs
  ·obtain ⟨sl,q⟩:=slot c o (I.cne x c e) hc nch ho (I.freeC x c e)
   exact ⟨_,q,hd⟩
  ·exact ⟨o,keep c o (I.cne x c e) hc nch ho (I.freeC x c e),hd⟩
 refine ⟨I.ok,I.os,hg,⟨fun b o e n hb hx=>?_,fun b o e n hb hx=>?_,fun b o e n hx=>?_,fun b o e hx=>?_,fun b xs e=>tups b xs (I.base.tups b xs e),fun b o xs e=>frzs b o xs (I.base.frzs b o xs e),fun b ps e=>?_⟩,?_,fun x c e=>?_,?_,fun x c e=>?_,fun p hp=>?_,hok,I.len⟩
 ·exact keep b o (neL b o e) hb (neC b o e hx) (I.base.keep b o e n hb hx) (I.base.free b o e n hx)
 ·obtain ⟨sl,e1⟩:=I.base.slot b o e n hb hx
  obtain ⟨sl',e2⟩:=slot b _ (neL b o e) hb (neC b o e hx) e1 (I.base.free b o e n hx)
  exact ⟨sl',e2⟩
 ·obtain ⟨o',e1⟩:=I.base.there b o e hx
  exact free b o' (neC b o e hx) e1 (I.base.free b o e n hx)
 ·obtain ⟨o',e1⟩:=I.base.there b o e hx
  exact there b o' (neC b o e hx) e1
 ·obtain ⟨m1,e1⟩:=I.base.tbls b ps e
  obtain ⟨m2,e2⟩:=tbls b _ e1
  exact ⟨m1 ++ m2,by rw [e2,Array.append_assoc]⟩
 ·obtain ⟨m,hn,hl⟩:=I.loc
  refine ⟨m,ns m hn,fun i x v e1 e2 e3=>?_⟩
  obtain ⟨u,r,l⟩:=hl i x v e1 e2 e3
  refine ⟨u,r,?_⟩
  rcases l with l | ⟨k,c,e,z⟩
  ·exact .inl l
  ·exact .inr ⟨k,c,e,cellK x c e _ z⟩
 ·obtain ⟨v,z⟩:=I.cell x c e
  exact ⟨v,cellK x c e v z⟩
 ·obtain ⟨m,⟨o,_,_,ho,_⟩,_⟩:=I.loc
  exact free _ o (fun z=>(hch _ z).2.1 rfl) ho I.free
 ·obtain ⟨v,o,ho,hd⟩:=I.cell x c e
  exact free c o (fun z=>(hch c z).2.2.1 x c e rfl) ho (I.freeC x c e)
 ·obtain ⟨e,n,ne,nf,d⟩:=I.pin p hp
  have nch:p.1 ∉ ch:=fun z=>(hch p.1 z).2.2.2 p hp rfl
  exact ⟨keep p.1 p.2 ne nf nch e n,free p.1 p.2 nch e n,ne,nf,d⟩
theorem Inv.un {t':Nat} (I:Inv X pins σ H s) (u:Un X.fs [] H H' s.heap h') (hok:HOk X.prog X.w H' h'):Inv X pins σ H' { s with heap:=h',toks:=t' }:=by
 obtain ⟨m,⟨o,es,ep,ho,r⟩,_⟩:=id I.loc
 obtain ⟨sl,hL⟩:=u.any ho I.free (by simp)
 exact I.step (g':=s.gens) (d':=s.drawn) (ch:=[]) (fun _ z=>nomatch z) (fun b o _ hb _ e n=>u.keep b o e n hb (by simp)) (fun b o _ hb _ e n=>u.slot b o e n hb (by simp)) (fun b o _ e n=>u.free b o e n (by simp)) (fun b o _ e=>u.there b o e (by simp)) u.tups u.frzs u.tbls (fun m' hm=>by
  obtain ⟨o',es',ep',ho',r'⟩:=hm
  rw [ho] at ho'; cases ho'
  exact ⟨_,es',ep',hL,r'⟩) hok I.bare
theorem Inv.call {g':Array GenState} {t':Nat} {d':Drawn} {ch:List Addr} (I:Inv X pins σ H s) (u:Un (frs X.stack) ch H H' s.heap h') (hok:HOk X.prog X.w H' h') (hg:AllBare g')
  (hch:∀ b∈ch,(b∈X.ex∨X.s₀.heap.objs.size≤b)∧b≠X.env.locals∧(∀ x c,X.env.cells.lookup x=some c→c≠b)∧∀ p∈X.pn ++ pins,p.1≠b) :
  Inv X pins σ H' { s with heap:=h',gens:=g',drawn:=d',toks:=t' }:=by
 obtain ⟨m,⟨o,es,ep,ho,r⟩,_⟩:=id I.loc
 obtain ⟨sl,hL⟩:=u.any ho I.free fun z=>(hch _ z).2.1 rfl
 exact I.step (ch:=ch) hch (fun b o hL hb hc e n=>u.keep b o e n (fun z=>(List.mem_cons.mp (I.stkSub b z)).elim hL hb) hc) (fun b o _ _ hc e n=>u.any e n hc) (fun b o hc e n=>u.free b o e n hc) (fun b o hc e=>u.there b o e hc) u.tups u.frzs u.tbls (fun m' hm=>by
  obtain ⟨o',es',ep',ho',r'⟩:=hm
  rw [ho] at ho'; cases ho'
  exact ⟨_,es',ep',hL,r'⟩) hok hg
theorem Inv.turned {t':Nat} {it:Addr} (I:Inv X pins σ H s) (k:∀ b o,b≠it→s.heap.get? b=some o→h'.get? b=some o) (hn:H it=none) (hL:it≠X.env.locals)
  (h1:it∈X.ex∨X.s₀.heap.objs.size≤it) (h2:∀ x c,X.env.cells.lookup x=some c→c≠it) (h3:∀ p∈X.pn ++ pins,p.1≠it):Inv X pins σ H { s with heap:=h',toks:=t' }:=by
 have nit:∀ b u,H b=some u→b≠it:=fun b u e z=>by rw [z,hn] at e; cases e
 refine I.step (g':=s.gens) (d':=s.drawn) (ch:=[it]) (fun b hb=>?_) (fun b o _ _ hc e _=>k b o (fun z=>hc (by simp [z])) e) (fun b o _ _ hc e _=>⟨o.slots,k b o (fun z=>hc (by simp [z])) e⟩) (fun _ _ _ _ n=>n)
  (fun b o hc e=>⟨o,k b o (fun z=>hc (by simp [z])) e⟩) (fun _ _ e=>e) (fun _ _ _ e=>e) (fun b ps e=>⟨#[],by rw [e]; simp⟩) (fun m hm=>?_) (fun b u e=>?_) I.bare
 ·have e:b=it:=by simpa using hb
  subst e
  exact ⟨h1,hL,h2,h3⟩
 ·obtain ⟨o,es,ep,ho,r⟩:=hm
  exact ⟨o,es,ep,k _ o (Ne.symm hL) ho,r⟩
 ·refine (I.hok b u e).stay (fun c v hc q=>k c v ?_ q) (fun _ q=>q) fun _ _ q=>q
  rcases hc with z | z
  ·rw [z]; exact nit b u e
  ·exact nit c _ z
theorem Inv.tok (I:Inv X pins σ H s) (t:Nat):Inv X pins σ H { s with toks:=t }:=I.un (h':=s.heap) (t':=t) Un.refl I.hok
theorem Inv.kept {t':Nat} (I:Inv X pins σ H s) (k:∀ b u,s.heap.get? b=some u→h'.get? b=some u):Inv X pins σ H { s with heap:=h',toks:=t' }:=I.un (Un.kept k) (I.hok.kept k)
theorem Inv.laid {a:Addr} {o:HO} {t':Nat} (I:Inv X pins σ H s) (k:∀ b u,s.heap.get? b=some u→h'.get? b=some u) (hp:s.heap.objs.size≤a) (new:ObjOk X.prog X.w (upd H a o) h' a o) :
  Inv X pins σ (upd H a o) { s with heap:=h',toks:=t' }:=I.un (Un.laid k hp (I.hok.fresh hp)) (I.hok.laid k hp new)
theorem Inv.write {x e:Addr} {o:HO} {t':Nat} (I:Inv X pins σ H s) (mu:Mut (H x)) (he:e=x∨H e=some (.own x)) (k:∀ b u,b≠e→s.heap.get? b=some u→h'.get? b=some u) (heo:∃ u,h'.get? e=some u)
  (new:ObjOk X.prog X.w (upd H x o) h' x o):Inv X pins σ (upd H x o) { s with heap:=h',toks:=t' }:=I.un (Un.write mu he k heo) (I.hok.write mu he k heo new)
theorem Inv.pins_of {pins':List (Addr×Obj)} (I:Inv X pins σ H s) (h:∀ p∈pins',s.heap.get? p.1=some p.2∧H p.1=none∧p.1≠X.env.locals∧p.1 ∉ X.fs∧∀ v,p.2.data≠.cell v):Inv X pins' σ H s :=
 ⟨I.ok,I.os,I.bare,I.base,I.loc,I.cell,I.free,I.freeC,fun p hp=>(List.mem_append.mp hp).elim (fun z=>I.pin p (List.mem_append_left _ z)) (h p),I.hok,I.len⟩
theorem nodup_ix {N:List Str} (hN:N.Nodup) {i j:Nat} {x:Str} (a:N[i]?=some x) (b:N[j]?=some x):i=j:=by
 obtain ⟨h1,e1⟩:=List.getElem?_eq_some_iff.mp a
 obtain ⟨h2,e2⟩:=List.getElem?_eq_some_iff.mp b
 exact (List.getElem_inj hN).mp (e1.trans e2.symm)
theorem store_ok2 {M:Model} {A:Around} {E:Value→Shared→Prop} {i:Nat} {x:Str} {v:V} {u:Value} {Q:Unit→Shared→Prop} (I:Inv X pins σ H s) (hN:X.N.Nodup) (hi:X.N[i]?=some x) (hx:Loc X.env.scope x) (r:RelV v u)
  (h:∀ s',Inv X pins (σ.set i (some v)) H s'→(∃ a,Heap.SameBut a s.heap s'.heap∧(a=X.env.locals∨X.env.cells.lookup x=some a))→Q () s') (hf:X.fn x=true∨X.env.scope.names.lookup x=some .local:=by first | exact .inl rfl | exact .inr rfl | assumption):wpAny M A (storeName X.env x u) Q E s:=by
 obtain ⟨m,hn,hl⟩:=id I.loc
 have hcls:(X.env.scope.kind == .class || (X.env.scope.kind == .module && X.env.locals != X.env.globals))=false:=by rw [I.ok.kind]; rfl
 have hiσ:i < σ.length:=by rw [I.len]; exact (List.getElem?_eq_some_iff.mp hi).1
 have cne:=I.cne
 have tracked:∀ {a:Addr} {h':Heap},(∃ o,s.heap.get? a=some o∧H a=none)→Heap.SameBut a s.heap h'→HOk X.prog X.w H h':=fun {a h'} ha hs b ob e=>by
  obtain ⟨_,_,hfree⟩:=ha
  refine (I.hok b ob e).stay (fun c w' hc q=>(hs.2 c ?_).trans q) (fun _ q=>q) fun _ _ q=>q
  rintro rfl
  rcases hc with rfl | hc
  ·rw [hfree] at e; cases e
  ·rw [hfree] at hc; cases hc
 rcases hx with hk | hk
 ·refine wpAny_storeName_local hk hn (fun h' hn' hs=>?_) hcls
  obtain ⟨oL,_,_,hoL,_⟩:=id hn
  refine h _ ⟨I.ok,I.os,I.bare,⟨fun b o e n hb hx=>?_,fun b o e n hb hx=>?_,I.base.free,fun b o e hx=>?_,I.base.tups,I.base.frzs,I.base.tbls⟩,⟨_,hn',fun j y v' e1 e2 e3=>?_⟩,fun y c e=>?_,I.free,I.freeC,fun p hp=>?_,tracked ⟨oL,hoL,I.free⟩ hs,by simpa using I.len⟩ ⟨_,hs,.inl rfl⟩
  ·exact (hs.2 b (Nat.ne_of_lt (Nat.lt_of_lt_of_le (Heap.lt_size e) I.ok.above))).trans (I.base.keep b o e n hb hx)
  ·obtain ⟨sl,e1⟩:=I.base.slot b o e n hb hx
   exact ⟨sl,(hs.2 b (Nat.ne_of_lt (Nat.lt_of_lt_of_le (Heap.lt_size e) I.ok.above))).trans e1⟩
  ·obtain ⟨o',e1⟩:=I.base.there b o e hx
   exact ⟨o',(hs.2 b (Nat.ne_of_lt (Nat.lt_of_lt_of_le (Heap.lt_size e) I.ok.above))).trans e1⟩
  ·by_cases hj:j=i
   ·subst hj
    rw [hi] at e1; cases e1
    rw [List.getElem?_set_self hiσ] at e2
    cases e2
    exact ⟨u,r,.inl ⟨hk,by simp⟩⟩
   ·rw [List.getElem?_set_ne (Ne.symm hj)] at e2
    obtain ⟨u',r',q⟩:=hl j y v' e1 e2 e3
    refine ⟨u',r',?_⟩
    rcases q with ⟨k,e⟩ | ⟨k,c,e,z⟩
    ·refine .inl ⟨k,?_⟩
     have:y≠x:=fun e=>hj (nodup_ix hN e1 (e ▸ hi))
     simp [this,e]
    ·exact .inr ⟨k,c,e,z.sameBut hs (cne y c e)⟩
  ·obtain ⟨w',z⟩:=I.cell y c e
   exact ⟨w',z.sameBut hs (cne y c e)⟩
  ·obtain ⟨e,n,ne,nf,d⟩:=I.pin p hp
   exact ⟨(hs.2 p.1 ne).trans e,n,ne,nf,d⟩
 ·have hfn:X.fn x=true:=by
   rcases hf with z | z
   ·exact z
   ·rw [z] at hk; cases hk
  obtain ⟨c,hc⟩:=I.ok.has x (.inl hk)
  obtain ⟨w',z⟩:=I.cell x c hc
  refine wpAny_storeName_cell I.ok.kind hk hc z (fun h' hc' hs=>?_)
  obtain ⟨oc,hoc,hocd⟩:=id z
  refine h { s with heap:=h' } ⟨I.ok,I.os,I.bare,⟨fun b o e n hb hx=>?_,fun b o e n hb hx=>?_,I.base.free,fun b o e hx=>?_,I.base.tups,I.base.frzs,I.base.tbls⟩,⟨m,hn.sameBut hs (Ne.symm (cne x c hc)),fun j y v' e1 e2 e3=>?_⟩,fun y c' e=>?_,I.free,I.freeC,fun p hp=>?_,tracked ⟨oc,hoc,I.freeC x c hc⟩ hs,by simpa using I.len⟩ ⟨c,hs,.inr hc⟩
  ·exact (hs.2 b (Nat.ne_of_lt (Nat.lt_of_lt_of_le (Heap.lt_size e) (I.ok.cab x c hfn hc)))).trans (I.base.keep b o e n hb hx)
  ·obtain ⟨sl,e1⟩:=I.base.slot b o e n hb hx
   exact ⟨sl,(hs.2 b (Nat.ne_of_lt (Nat.lt_of_lt_of_le (Heap.lt_size e) (I.ok.cab x c hfn hc)))).trans e1⟩
  ·obtain ⟨o',e1⟩:=I.base.there b o e hx
   exact ⟨o',(hs.2 b (Nat.ne_of_lt (Nat.lt_of_lt_of_le (Heap.lt_size e) (I.ok.cab x c hfn hc)))).trans e1⟩
  ·by_cases hj:j=i
   ·subst hj
    rw [hi] at e1; cases e1
    rw [List.getElem?_set_self hiσ] at e2
    cases e2
    exact ⟨u,r,.inr ⟨.inl hk,c,hc,hc'⟩⟩
   ·rw [List.getElem?_set_ne (Ne.symm hj)] at e2
    obtain ⟨u',r',q⟩:=hl j y v' e1 e2 e3
    refine ⟨u',r',?_⟩
    rcases q with q | ⟨k,c',e,z'⟩
    ·exact .inl q
    ·refine .inr ⟨k,c',e,z'.sameBut hs ?_⟩
     rintro rfl
     exact hj (nodup_ix hN e1 (I.ok.inj _ _ _ e hc ▸ hi))
  ·by_cases hcc:c'=c
   ·subst hcc; exact ⟨_,hc'⟩
   ·obtain ⟨w2,z2⟩:=I.cell y c' e
    exact ⟨w2,z2.sameBut hs hcc⟩
  ·obtain ⟨e,n,ne,nf,d⟩:=I.pin p hp
   refine ⟨(hs.2 p.1 ?_).trans e,n,ne,nf,d⟩
   intro q
   rw [q,hoc] at e
   have q':oc=p.2:=Option.some.inj e
   exact d w' (by rw [← q']; exact hocd)
theorem store_ok {M:Model} {A:Around} {E:Value→Shared→Prop} {i:Nat} {x:Str} {v:V} {u:Value} {Q:Unit→Shared→Prop} (I:Inv X pins σ H s) (hN:X.N.Nodup) (hi:X.N[i]?=some x) (hx:Loc X.env.scope x) (r:RelV v u)
  (h:∀ s',Inv X pins (σ.set i (some v)) H s'→Q () s') (hf:X.fn x=true∨X.env.scope.names.lookup x=some .local:=by first | exact .inl rfl | exact .inr rfl | assumption):wpAny M A (storeName X.env x u) Q E s :=
 store_ok2 I hN hi hx r (fun s' I' _=>h s' I') hf
theorem Inv.call' {s':Shared} {ch:List Addr} (I:Inv X pins σ H s) (ho:s'.os=s.os) (u:Un (frs X.stack) ch H H' s.heap s'.heap) (hok:HOk X.prog X.w H' s'.heap) (hg:AllBare s'.gens)
  (hch:∀ b∈ch,(b∈X.ex∨X.s₀.heap.objs.size≤b)∧b≠X.env.locals∧(∀ x c,X.env.cells.lookup x=some c→c≠b)∧∀ p∈X.pn ++ pins,p.1≠b):Inv X pins σ H' s':=by
 obtain ⟨h',g',d',t',o'⟩:=s'
 have e:o'=s.os:=ho
 subst e
 exact I.call (g':=g') (t':=t') (d':=d') u hok hg hch
end
noncomputable abbrev XK:=Value→Option Addr→Hp→Prop
noncomputable abbrev St:=List (Option V)
noncomputable abbrev VK:=V→Hp→Prop
noncomputable abbrev TE:=St→Hp→VK→Prop
noncomputable abbrev TT:=St→Hp→(Bool→Hp→Prop)→Prop
noncomputable abbrev TA:=St→Hp→(List V→Hp→Prop)→Prop
structure Ends where
 nx:St→Hp→Prop
 rt:VK
 bk:St→Hp→Prop:=fun _ _=>False
 ct:St→Hp→Prop:=fun _ _=>False
noncomputable abbrev TS:=Ends→St→Hp→Prop
noncomputable def EP (X:Cx) (pins:List (Addr×Obj)) (σ:St) (Q:VK) (u:Value) (s':Shared):Prop:=Ex_2_3 (fun v H'=>Inv X pins σ H' s') (fun v H'=>RelV v u) (fun v H'=>Q v H')
noncomputable def TP (X:Cx) (pins:List (Addr×Obj)) (σ:St) (Q:Bool→Hp→Prop) (b:Bool) (s':Shared):Prop:=∃ H',Inv X pins σ H' s'∧Q b H'
noncomputable def AP (X:Cx) (pins:List (Addr×Obj)) (σ:St) (Q:List V→Hp→Prop) (us:List Value) (s':Shared):Prop:=Ex_2_3 (fun vs H'=>Inv X pins σ H' s') (fun vs H'=>Vals vs us) (fun vs H'=>Q vs H')
noncomputable def SP (X:Cx) (pins:List (Addr×Obj)) (D:Ends) (f:Flow) (s':Shared):Prop :=
 match f with
 | .next=>∃ σ' H',Inv X pins σ' H' s'∧D.nx σ' H'
 | .brk=>∃ σ' H',Inv X pins σ' H' s'∧D.bk σ' H'
 | .cont=>∃ σ' H',Inv X pins σ' H' s'∧D.ct σ' H'
 | .ret u=>∃ v σ' H',Inv X pins σ' H' s'∧RelV v u∧D.rt v H'
noncomputable def PE (X:Cx) (e:Expr) (t:TE):Prop :=
 ∀ (pins:List (Addr×Obj)) (s:Shared) (σ:St) (H:Hp) (Q:VK),Inv X pins σ H s→t σ H Q→wpAny (model X.prog X.w) X.A (eval e X.env) (EP X pins σ Q) X.xe s
noncomputable def PT (X:Cx) (e:Expr) (t:TT):Prop :=
 ∀ (pins:List (Addr×Obj)) (s:Shared) (σ:St) (H:Hp) (Q:Bool→Hp→Prop),Inv X pins σ H s→t σ H Q→wpAny (model X.prog X.w) X.A (isTrue e X.env (eval e X.env)) (TP X pins σ Q) X.xe s
noncomputable def PW (X:Cx) (e:Expr) (t:TT):Prop :=
 ∀ (whole:Sem Value) (pins:List (Addr×Obj)) (s:Shared) (σ:St) (H:Hp) (Q:Bool→Hp→Prop),Inv X pins σ H s→t σ H Q→wpAny (model X.prog X.w) X.A (isTrue e X.env whole) (TP X pins σ Q) X.xe s
theorem PW.pt {X:Cx} {e:Expr} {t:TT} (h:PW X e t):PT X e t:=h _
noncomputable def PA (X:Cx) (es:List Expr) (t:TA):Prop :=
 ∀ (pos:Pos) (pins:List (Addr×Obj)) (s:Shared) (σ:St) (H:Hp) (Q:List V→Hp→Prop),Inv X pins σ H s→t σ H Q→wpAny (model X.prog X.w) X.A (spliced (backTo pos (starEach es X.env))) (AP X pins σ Q) X.xe s
noncomputable def PS (X:Cx) (st:Stmt) (t:TS):Prop :=
 ∀ (pins:List (Addr×Obj)) (s:Shared) (σ:St) (H:Hp) (D:Ends),Inv X pins σ H s→t D σ H→wpAny (model X.prog X.w) X.A (exec st X.env) (SP X pins D) X.xe s
noncomputable def PSs (X:Cx) (st:List Stmt) (t:TS):Prop :=
 ∀ (pins:List (Addr×Obj)) (s:Shared) (σ:St) (H:Hp) (D:Ends),Inv X pins σ H s→t D σ H→wpAny (model X.prog X.w) X.A (execs st X.env) (SP X pins D) X.xe s
theorem thn {α:Type} {t:Sem α} {Q Q':α→Shared→Prop} {M:Model} {A:Around} {E:Value→Shared→Prop} {s:Shared} (h:wpAny M A t Q E s) (hQ:∀ a s,Q a s→Q' a s):wpAny M A t Q' E s:=wpAny_mono h hQ fun _ _ x=>x
theorem thnE {X:Cx} {pins:List (Addr×Obj)} {σ:St} {Q:VK} {t:Sem Value} {Q':Value→Shared→Prop} {M:Model} {A:Around} {E:Value→Shared→Prop} {s:Shared} (h:wpAny M A t (EP X pins σ Q) E s) (k:∀ u s' v H',Inv X pins σ H' s'→RelV v u→Q v H'→Q' u s'):wpAny M A t Q' E s:=wpAny_mono h (fun u s' q=>by obtain ⟨v,H',a,b,c⟩:=q; exact k u s' v H' a b c) fun _ _ x=>x
theorem thnA {X:Cx} {pins:List (Addr×Obj)} {σ:St} {Q:List V→Hp→Prop} {t:Sem (List Value)} {Q':List Value→Shared→Prop} {M:Model} {A:Around} {E:Value→Shared→Prop} {s:Shared} (h:wpAny M A t (AP X pins σ Q) E s) (k:∀ u s' v H',Inv X pins σ H' s'→Vals v u→Q v H'→Q' u s'):wpAny M A t Q' E s:=wpAny_mono h (fun u s' q=>by obtain ⟨v,H',a,b,c⟩:=q; exact k u s' v H' a b c) fun _ _ x=>x
theorem thnT {X:Cx} {pins:List (Addr×Obj)} {σ:St} {Q:Bool→Hp→Prop} {t:Sem Bool} {Q':Bool→Shared→Prop} {M:Model} {A:Around} {E:Value→Shared→Prop} {s:Shared} (h:wpAny M A t (TP X pins σ Q) E s) (k:∀ u s' H',Inv X pins σ H' s'→Q u H'→Q' u s'):wpAny M A t Q' E s:=wpAny_mono h (fun u s' q=>by obtain ⟨H',a,b⟩:=q; exact k u s' H' a b) fun _ _ x=>x
end L2
namespace L2
open PySem PySem.Spec PyProof.Rows
section
variable {X:Cx}
noncomputable def tVar (i:Nat):TE:=fun σ H Q=>Ex_1_2 (fun v=>σ[i]?=some (some v)) (fun v=>Q v H)
noncomputable def tC (v:V):TE:=fun _ H Q=>Q v H
theorem pe_var {i:Nat} {x:Str} {pos:Pos} (hN:X.N[i]?=some x) (hv:Vis X.env.scope x) (hd:(x == ("__debug__":Str))=false:=by decide) (hcd:(x == ("__classdict__":Str))=false:=by decide):PE X (.Name x pos) (tVar i):=by
 intro pins s σ H Q I h
 obtain ⟨v,e,h⟩:=h
 obtain ⟨m,hn,hl⟩:=I.loc
 obtain ⟨u,r,l⟩:=hl i x v hN e hv
 have fin:EP X pins σ Q u s:=⟨v,H,I,r,h⟩
 rcases l with ⟨hk,hm⟩ | ⟨hk,c,hc,hcell⟩
 ·exact wpAny_Name (wpAny_loadName_local I.ok.kind hk hn hm fin) hd
 ·rcases hk with hk | hk
  ·exact wpAny_Name (wpAny_loadName_cell I.ok.kind hk hc hcell fin) hd
  ·exact wpAny_Name (wpAny_loadName_free I.ok.kind hk hc hcell fin hcd) hd
theorem pe_int {i j pos}:PE X (.Constant (.int i) j pos) (tC (.int i)):=fun _ _ _ H _ I h=>wpAny_Constant_int ⟨.int i,H,I.tok _,⟨_,rfl⟩,h⟩
theorem pe_bl {b j pos}:PE X (.Constant (.bool b) j pos) (tC (.bl b)):=fun _ _ _ H _ I h=>Constant_bool ⟨.bl b,H,I,rfl,h⟩
theorem pe_non {j pos}:PE X (.Constant .none j pos) (tC .non):=fun _ _ _ H _ I h=>Constant_none ⟨.non,H,I,rfl,h⟩
theorem pe_str {x j pos}:PE X (.Constant (.str x) j pos) (tC (.str x)):=fun _ _ _ H _ I h=>Calls.Constant_str ⟨.str x,H,I.tok _,⟨_,rfl⟩,h⟩
noncomputable def Gl (X:Cx) (x:Str):Prop:=X.env.kindOf x=some .globalImplicit
theorem ld_glob {E:Value→Shared→Prop} {pins:List (Addr×Obj)} {s:Shared} {σ:St} {H:Hp} {x:Str} {u:Value} {pos:Pos} {Q:Value→Shared→Prop} (I:Inv X pins σ H s) (hg:Gl X x) (hm:X.mg x=some u) (h:Q u s)
  (hd:(x == ("__debug__":Str))=false:=by decide):wpAny (model X.prog X.w) X.A (eval (.Name x pos) X.env) Q E s :=
 Calls.Name_function_global I.ok.kind hg (Calls.loadGlobal_global (by rw [I.ok.glob]; exact I.mod.glob.keeps I.bk) hm h) hd
theorem ld_blt {E:Value→Shared→Prop} {pins:List (Addr×Obj)} {s:Shared} {σ:St} {H:Hp} {x:Str} {u:Value} {pos:Pos} {Q:Value→Shared→Prop} (I:Inv X pins σ H s) (hg:Gl X x) (hm:X.mg x=none) (hv:bootBuiltins x=some u) (h:Q u s)
  (hn:x≠"__name__":=by decide) (hd:(x == ("__debug__":Str))=false:=by decide):wpAny (model X.prog X.w) X.A (eval (.Name x pos) X.env) Q E s:=by
 obtain ⟨mb,h1,h2⟩:=I.mod.blt
 exact Calls.Name_function_global I.ok.kind hg (Calls.loadGlobal_builtin (by rw [I.ok.glob]; exact I.mod.glob.keeps I.bk) hm (by rw [I.ok.blt]; exact h1.keeps I.bk) ((h2 x hn).trans hv) h) hd
theorem pe_glob {x:Str} {v:V} {u:Value} {pos:Pos} (hg:Gl X x) (hm:X.mg x=some u) (r:RelV v u) (hd:(x == ("__debug__":Str))=false:=by decide):PE X (.Name x pos) (tC v) :=
 fun _ _ _ H _ I h=>ld_glob I hg hm ⟨v,H,I,r,h⟩ hd
theorem pe_bltn {x:Str} {v:V} {u:Value} {pos:Pos} (hg:Gl X x) (hm:X.mg x=none) (hv:bootBuiltins x=some u) (r:RelV v u) (hn:x≠"__name__":=by decide) (hd:(x == ("__debug__":Str))=false:=by decide):PE X (.Name x pos) (tC v) :=
 fun _ _ _ H _ I h=>ld_blt I hg hm hv ⟨v,H,I,r,h⟩ hn hd
variable {a b:Expr} {ta tb:TE} {pos:Pos}
noncomputable def tB (t:TE):TT:=fun σ H Q=>t σ H fun x H1=>Ex_1_2 (fun c=>x=.bl c) (fun c=>Q c H1)
theorem pt_val {e:Expr} {t:TE} (h:PE X e t) (he:∀ whole,isTrue e X.env whole=(do let v ← whole; standAt e.pos; holding [v] (truthy v)):=by intro _; rfl):PT X e (tB t):=by
 intro pins s σ H Q I hw
 refine isTrue_plain (thnE (h pins s σ H _ I hw) fun v s1 x H1 I1 r1 q1=>?_) (he _)
 obtain ⟨d,rfl,q⟩:=q1
 cases r1
 exact wpAny_truthy_bool ⟨H1,I1,q⟩
variable {tA tB':TT} {rest:List Expr}
noncomputable def tAnd (t u:TT):TT:=fun σ H Q=>t σ H fun c H1=>if c=true then u σ H1 Q else Q false H1
noncomputable def tOr (t u:TT):TT:=fun σ H Q=>t σ H fun c H1=>if c=true then Q true H1 else u σ H1 Q
noncomputable def tNot (t:TT):TT:=fun σ H Q=>t σ H fun c H1=>Q (!c) H1
theorem pw_and1 (ha:PT X a tA):PW X (.BoolOp .And [a] pos) tA:=by
 intro wh pins s σ H Q I h
 refine isTrue_and (thn (ha pins s σ H Q I h) fun c s1 e=>?_)
 cases c with
 | true=>exact isTrue_and_nil e
 | false=>exact e
theorem pw_or1 (ha:PT X a tA):PW X (.BoolOp .Or [a] pos) tA:=by
 intro wh pins s σ H Q I h
 refine isTrue_or (thn (ha pins s σ H Q I h) fun c s1 e=>?_)
 cases c with
 | false=>exact isTrue_or_nil e
 | true=>exact e
theorem pw_and (ha:PT X a tA) (hb:PW X (.BoolOp .And (b :: rest) pos) tB'):PW X (.BoolOp .And (a :: b :: rest) pos) (tAnd tA tB'):=by
 intro wh pins s σ H Q I h
 refine isTrue_and (thnT (ha pins s σ H _ I h) fun c s1 H1 I1 q1=>?_)
 cases c with
 | true=>exact hb wh pins s1 σ H1 Q I1 q1
 | false=>exact ⟨H1,I1,q1⟩
theorem pw_or (ha:PT X a tA) (hb:PW X (.BoolOp .Or (b :: rest) pos) tB'):PW X (.BoolOp .Or (a :: b :: rest) pos) (tOr tA tB'):=by
 intro wh pins s σ H Q I h
 refine isTrue_or (thnT (ha pins s σ H _ I h) fun c s1 H1 I1 q1=>?_)
 cases c with
 | true=>exact ⟨H1,I1,q1⟩
 | false=>exact hb wh pins s1 σ H1 Q I1 q1
theorem pt_not (ha:PT X a tA):PT X (.UnaryOp .Not a pos) (tNot tA):=by
 intro pins s σ H Q I h
 exact isTrue_not (ha pins s σ H (fun c H1=>Q (!c) H1) I h)
noncomputable def tAndV (ta tb:TE):TE:=fun σ H Q=>ta σ H fun x H1=>∃ c,x=.bl c∧if c=true then tb σ H1 Q else Q (.bl false) H1
noncomputable def tOrV (ta tb:TE):TE:=fun σ H Q=>ta σ H fun x H1=>∃ c,x=.bl c∧if c=true then Q (.bl true) H1 else tb σ H1 Q
noncomputable def tNotV (ta:TE):TE:=fun σ H Q=>ta σ H fun x H1=>Ex_1_2 (fun c=>x=.bl c) (fun c=>Q (.bl (!c)) H1)
theorem pe_one {op} {t:TE} (h:PE X a t):PE X (.BoolOp op [a] pos) t:=fun pins s σ H Q I hw=>BoolOp_one (h pins s σ H Q I hw)
theorem pe_and (ha:PE X a ta) (hb:PE X (.BoolOp .And (b :: rest) pos) tb):PE X (.BoolOp .And (a :: b :: rest) pos) (tAndV ta tb):=by
 intro pins s σ H Q I h
 refine BoolOp_and (thnE (ha pins s σ H _ I h) fun v s1 x H1 I1 r1 q1=>?_)
 obtain ⟨c,rfl,q1⟩:=q1
 cases r1
 refine wpAny_truthy_bool ?_
 cases c with
 | true=>exact hb pins s1 σ H1 Q I1 q1
 | false=>exact ⟨.bl false,H1,I1,rfl,q1⟩
theorem pe_or (ha:PE X a ta) (hb:PE X (.BoolOp .Or (b :: rest) pos) tb):PE X (.BoolOp .Or (a :: b :: rest) pos) (tOrV ta tb):=by
 intro pins s σ H Q I h
 refine BoolOp_or (thnE (ha pins s σ H _ I h) fun v s1 x H1 I1 r1 q1=>?_)
 obtain ⟨c,rfl,q1⟩:=q1
 cases r1
 refine wpAny_truthy_bool ?_
 cases c with
 | false=>exact hb pins s1 σ H1 Q I1 q1
 | true=>exact ⟨.bl true,H1,I1,rfl,q1⟩
theorem pe_not (ha:PE X a ta):PE X (.UnaryOp .Not a pos) (tNotV ta):=by
 intro pins s σ H Q I h
 refine UnaryOp_ (thnE (ha pins s σ H _ I h) fun v s1 x H1 I1 r1 q1=>?_)
 obtain ⟨c,rfl,q1⟩:=q1
 cases r1
 exact not_of (wpAny_truthy_bool ⟨.bl (!c),H1,I1,rfl,q1⟩)
noncomputable def tIf (t:TT) (ta tb:TE):TE:=fun σ H Q=>t σ H fun c H1=>if c=true then ta σ H1 Q else tb σ H1 Q
theorem pe_ifExp {c:Expr} (hc:PT X c tA) (ha:PE X a ta) (hb:PE X b tb):PE X (.IfExp c a b pos) (tIf tA ta tb):=by
 intro pins s σ H Q I h
 refine wpAny_IfExp (thnT (hc pins s σ H _ I h) fun d s1 H1 I1 q1=>?_)
 cases d with
 | true=>exact ha pins s1 σ H1 Q I1 q1
 | false=>exact hb pins s1 σ H1 Q I1 q1
end
end L2
namespace L2
open PySem PySem.Spec PyProof.Rows
noncomputable def SqL (K:PySem.W.Frag) (H:Hp) (a:Addr) (xs:List V):Prop :=
 Rd H a (.lst xs) ∨
  Ex_3_6 (fun (o:Obj) (its:Array Value) (n:Nat)=>K.lookup a=some o) (fun o its n=>o.cls=.type "list") (fun o its n=>o.dict=none) (fun o its n=>o.data=.seq its n) (fun o its n=>its.size≤sizeLine) (fun o its n=>Vals xs its.toList)
noncomputable def SqT (K:PySem.W.Frag) (H:Hp) (a:Addr) (xs:List V):Prop :=
 Rd H a (.tup xs) ∨
  Ex_3_5 (fun (o:Obj) (its:Array Value) (n:Nat)=>K.lookup a=some o) (fun o its n=>o.cls=.type "tuple") (fun o its n=>o.data=.seq its n) (fun o its n=>its.size≤sizeLine) (fun o its n=>Vals xs its.toList)
noncomputable def absV:Value→Option V
 | .none=>some .non
 | .bool b=>some (.bl b)
 | .int i _=>some (.int i)
 | .str x _=>some (.str x)
 | .bytes b _=>some (.byt b)
 | .float b _=>some (.flt b)
 | .ref a=>some (.ref a)
 | .type n=>some (.ty n)
 | _=>none
theorem RelV.abs {x:V} {u:Value} (r:RelV x u):absV u=some x:=by
 cases x with
 | non=>cases r; rfl
 | bl _=>cases r; rfl
 | int _=>obtain ⟨t,rfl⟩:=r; rfl
 | str _=>obtain ⟨t,rfl⟩:=r; rfl
 | byt _=>obtain ⟨t,rfl⟩:=r; rfl
 | flt _=>obtain ⟨t,rfl⟩:=r; rfl
 | ref _=>cases r; rfl
 | ty _=>cases r; rfl
theorem RelV.inj {x y:V} {u:Value} (r:RelV x u) (q:RelV y u):x=y:=Option.some.inj (r.abs.symm.trans q.abs)
theorem Vals.inj {xs ys:List V} {us:List Value} (h:Vals xs us) (g:Vals ys us):xs=ys:=by
 induction h generalizing ys with
 | nil=>cases g; rfl
 | cons r t ih=>cases g with
  | cons r' t'=>rw [r.inj r',ih t']
section
variable {X:Cx} {pins:List (Addr×Obj)} {σ:St} {H:Hp} {s:Shared} {a:Addr} {xs ys:List V}
theorem SqL.of {K:PySem.W.Frag} (h:H a=some (.lst xs)):SqL K H a xs:=.inl (.inl h)
theorem SqT.of {K:PySem.W.Frag} (h:H a=some (.tup xs)):SqT K H a xs:=.inl (.inl h)
theorem Inv.list (I:Inv X pins σ H s) (h:SqL X.K H a xs):∃ its:List Value,Vals xs its∧PlainL s.heap a its.toArray∧xs.length≤sizeLine:=by
 rcases h with h | ⟨o,its,n,hk,hc,hd,hs,hz,r⟩
 ·obtain ⟨z,its,n,r,e⟩:=h.ok I.hok
  exact ⟨its,r,⟨_,n,e,rfl,rfl,rfl⟩,z⟩
 ·refine ⟨its.toList,r,⟨o,n,I.kIn a o hk,hc,hd,by simpa using hs⟩,?_⟩
  have e:=r.length
  simp only [Array.length_toList] at e
  lia
theorem Inv.tuple (I:Inv X pins σ H s) (h:SqT X.K H a xs):∃ its:List Value,Vals xs its∧IsTup s.heap a its.toArray∧xs.length≤sizeLine:=by
 rcases h with h | ⟨o,its,n,hk,hc,hs,hz,r⟩
 ·obtain ⟨z,its,r,p⟩:=h.ok I.hok
  exact ⟨its,r,p,z⟩
 ·refine ⟨its.toList,r,⟨o,I.kIn a o hk,hc,n,by simpa using hs⟩,?_⟩
  have e:=r.length
  simp only [Array.length_toList] at e
  lia
theorem Inv.list_inj (I:Inv X pins σ H s) (h:SqL X.K H a xs) (h':SqL X.K H a ys):xs=ys:=by
 obtain ⟨its,r,⟨o,n,e,_,_,d⟩,_⟩:=I.list h
 obtain ⟨its',r',⟨o',n',e',_,_,d'⟩,_⟩:=I.list h'
 rw [e] at e'; cases e'
 rw [d] at d'
 injection d' with d1 _
 have:its=its':=by simpa using congrArg Array.toList d1
 subst this
 exact r.inj r'
theorem Inv.tuple_inj (I:Inv X pins σ H s) (h:SqT X.K H a xs) (h':SqT X.K H a ys):xs=ys:=by
 obtain ⟨its,r,⟨o,e,_,n,d⟩,_⟩:=I.tuple h
 obtain ⟨its',r',⟨o',e',_,n',d'⟩,_⟩:=I.tuple h'
 rw [e] at e'; cases e'
 rw [d] at d'
 injection d' with d1 _
 have:its=its':=by simpa using congrArg Array.toList d1
 subst this
 exact r.inj r'
end
noncomputable abbrev Cx.wish (X:Cx) (E:Value→Shared→Prop):Cx:={ X with xe:=E }
noncomputable abbrev Cx.nox (X:Cx):Cx:=X.wish fun _ _=>False
theorem Cx.Ok.wish {X:Cx} (ok:X.Ok) (E:Value→Shared→Prop):(X.wish E).Ok :=
 ⟨ok.mod,ok.kind,ok.glob,ok.blt,ok.above,ok.inj,ok.has,ok.cab,ok.hd,ok.frames,ok.stk,ok.exf,ok.bs,ok.bsz,ok.noex,ok.exfs,ok.funs,ok.frf⟩
theorem Cx.Ok.unwish {X:Cx} {E:Value→Shared→Prop} (ok:(X.wish E).Ok):X.Ok :=
 ⟨ok.mod,ok.kind,ok.glob,ok.blt,ok.above,ok.inj,ok.has,ok.cab,ok.hd,ok.frames,ok.stk,ok.exf,ok.bs,ok.bsz,ok.noex,ok.exfs,ok.funs,ok.frf⟩
section
variable {X:Cx} {pins:List (Addr×Obj)} {σ:St} {H:Hp} {s:Shared} {E:Value→Shared→Prop}
theorem Inv.wish (I:Inv X pins σ H s) (E:Value→Shared→Prop):Inv (X.wish E) pins σ H s:=⟨I.ok.wish E,I.os,I.bare,I.base,I.loc,I.cell,I.free,I.freeC,I.pin,I.hok,I.len⟩
theorem Inv.unwish (I:Inv (X.wish E) pins σ H s):Inv X pins σ H s:=⟨I.ok.unwish,I.os,I.bare,I.base,I.loc,I.cell,I.free,I.freeC,I.pin,I.hok,I.len⟩
theorem SP.unwish {D:Ends} {f:Flow} {s':Shared} (h:SP (X.wish E) pins D f s'):SP X pins D f s':=by
 cases f with
 | next=>obtain ⟨σ',H',I,q⟩:=h; exact ⟨σ',H',I.unwish,q⟩
 | brk=>obtain ⟨σ',H',I,q⟩:=h; exact ⟨σ',H',I.unwish,q⟩
 | cont=>obtain ⟨σ',H',I,q⟩:=h; exact ⟨σ',H',I.unwish,q⟩
 | ret u=>obtain ⟨v,σ',H',I,r,q⟩:=h; exact ⟨v,σ',H',I.unwish,r,q⟩
theorem PE.nox {e:Expr} {t:TE} (h:PE X.nox e t):PE X e t:=fun pins s σ H Q I hw =>
 wpAny_mono (h pins s σ H Q (I.wish _) hw) (fun _ _ ⟨v,H',I',r,q⟩=>⟨v,H',I'.unwish,r,q⟩) fun _ _ z=>False.elim z
theorem PT.nox {e:Expr} {t:TT} (h:PT X.nox e t):PT X e t:=fun pins s σ H Q I hw =>
 wpAny_mono (h pins s σ H Q (I.wish _) hw) (fun _ _ ⟨H',I',q⟩=>⟨H',I'.unwish,q⟩) fun _ _ z=>False.elim z
theorem PSs.nox {st:List Stmt} {t:TS} (h:PSs X.nox st t):PSs X st t:=fun pins s σ H D I hw =>
 wpAny_mono (h pins s σ H D (I.wish _) hw) (fun _ _ q=>q.unwish) fun _ _ z=>False.elim z
end
section
variable {X:Cx} {st:Stmt} {rest:List Stmt} {t u:TS} {e:Expr} {te:TE} {pos:Pos}
noncomputable def tNext:TS:=fun D σ H=>D.nx σ H
noncomputable def tSeq (t u:TS):TS:=fun D σ H=>t { D with nx:=u D } σ H
theorem pss_nil:PSs X [] tNext:=fun _ _ σ H _ I h=>wpAny_execs_nil ⟨σ,H,I,h⟩
theorem pss_cons (h1:PS X st t) (h2:PSs X rest u):PSs X (st :: rest) (tSeq t u):=by
 intro pins s σ H D I h
 refine wpAny_execs_cons (thn (h1 pins s σ H { D with nx:=u D } I h) fun f s1 q=>?_)
 cases f with
 | next =>
  obtain ⟨σ',H',I',q⟩:=q
  exact h2 pins s1 σ' H' D I' q
 | ret v=>exact q
 | brk=>exact q
 | cont=>exact q
theorem pss_one (h1:PS X st t):PSs X [st] t:=by
 intro pins s σ H D I h
 refine wpAny_execs_cons (thn (h1 pins s σ H D I h) fun f s1 q=>?_)
 cases f with
 | next=>exact wpAny_execs_nil q
 | ret v=>exact q
 | brk=>exact q
 | cont=>exact q
theorem Inv.quiet {pins:List (Addr×Obj)} {σ:St} {H:Hp} {s:Shared} (I:Inv X pins σ H s):interactive X.env=false:=by simp [interactive,I.ok.kind]
noncomputable def tDrop (te:TE):TS:=fun D σ H=>te σ H fun _ H1=>D.nx σ H1
theorem ps_expr (he:PE X e te) (hs:swapsWith e none pos.line X.env=pure false:=by rfl):PS X (.Expr e pos) (tDrop te):=by
 intro pins s σ H D I h
 exact wpAny_Expr_any (thnE (he pins s σ H _ I h) fun v s1 x H1 I1 r1 q1=>⟨σ,H1,I1,q1⟩) I.quiet hs
noncomputable def tRet (te:TE):TS:=fun D σ H=>te σ H D.rt
theorem ps_ret (he:PE X e te):PS X (.Return (some e) pos) (tRet te):=by
 intro pins s σ H D I h
 exact wpAny_Return_some (thnE (he pins s σ H _ I h) fun v s1 x H1 I1 r1 q1=>⟨x,σ,H1,I1,r1,q1⟩)
noncomputable def tIfS (c:TT) (t u:TS):TS:=fun D σ H=>c σ H fun b H1=>if b=true then t D σ H1 else u D σ H1
theorem ps_if {c:Expr} {a b:List Stmt} {tc:TT} (hc:PT X c tc) (ha:PSs X a t) (hb:PSs X b u):PS X (.If c a b pos) (tIfS tc t u):=by
 intro pins s σ H D I h
 refine wpAny_If (thnT (hc pins s σ H _ I h) fun d s1 H1 I1 q1=>?_)
 cases d with
 | true=>exact ha pins s1 σ H1 D I1 q1
 | false=>exact hb pins s1 σ H1 D I1 q1
end
noncomputable abbrev TG:=V→St→Hp→(St→Hp→Prop)→Prop
noncomputable abbrev TGs:=List V→St→Hp→(St→Hp→Prop)→Prop
noncomputable def PG (X:Cx) (target:Expr) (t:TG):Prop :=
 ∀ (pins:List (Addr×Obj)) (s:Shared) (σ:St) (H:Hp) (v:V) (u:Value) (Q:St→Hp→Prop),Inv X pins σ H s→RelV v u→t v σ H Q →
  wpAny (model X.prog X.w) X.A (assign target X.env u) (fun _ s'=>∃ σ' H',Inv X pins σ' H' s'∧Q σ' H') X.xe s
noncomputable def PGs (X:Cx) (ts:List Expr) (t:TGs):Prop :=
 ∀ (pins:List (Addr×Obj)) (s:Shared) (σ:St) (H:Hp) (vs:List V) (us:List Value) (Q:St→Hp→Prop),Inv X pins σ H s→Vals vs us→t vs σ H Q →
  wpAny (model X.prog X.w) X.A (assignInOrder ((assignEach ts X.env).map (·.2)) us) (fun _ s'=>∃ σ' H',Inv X pins σ' H' s'∧Q σ' H') X.xe s
noncomputable abbrev TSet:=V→V→V→Hp→(Hp→Prop)→Prop
noncomputable def PSet (X:Cx) (t:TSet):Prop :=
 ∀ (pins:List (Addr×Obj)) (s:Shared) (σ:St) (H:Hp) (o i v:V) (ov iv u:Value) (Q:Hp→Prop),Inv X pins σ H s→RelV o ov→RelV i iv→RelV v u→t o i v H Q →
  wpAny (model X.prog X.w) X.A (setItem ov iv u) (fun _ s'=>∃ H',Inv X pins σ H' s'∧Q H') X.xe s
section
variable {X:Cx} {pos:Pos}
noncomputable def gName (i:Nat):TG:=fun v σ H Q=>Q (σ.set i (some v)) H
theorem pg_name {i:Nat} {x:Str} (hN:X.N.Nodup) (hi:X.N[i]?=some x) (hx:Loc X.env.scope x) (hf:X.fn x=true∨X.env.scope.names.lookup x=some .local:=by first | exact .inl rfl | exact .inr rfl | assumption):PG X (.Name x pos) (gName i):=by
 intro pins s σ H v u Q I r h
 exact wpAny_assign_Name (store_ok I hN hi hx r (fun s' I'=>⟨_,H,I',h⟩) hf)
noncomputable def gNil:TGs:=fun vs σ H Q=>vs=[]∧Q σ H
noncomputable def gCons (t:TG) (u:TGs):TGs:=fun vs σ H Q=>Ex_2_2 (fun v r=>vs=v :: r) (fun v r=>t v σ H fun σ' H'=>u r σ' H' Q)
theorem pgs_nil:PGs X [] gNil:=by
 intro pins s σ H vs us Q I r h
 obtain ⟨e,h⟩:=h
 subst e
 cases r
 exact assignInOrder_nil ⟨σ,H,I,h⟩
theorem pgs_cons {e:Expr} {es:List Expr} {t:TG} {u:TGs} (h1:PG X e t) (h2:PGs X es u)
  (hs:(assignEach (e :: es) X.env).map (·.2)=assign e X.env :: (assignEach es X.env).map (·.2):=by rfl):PGs X (e :: es) (gCons t u):=by
 intro pins s σ H vs us Q I r h
 obtain ⟨v,vr,e1,h⟩:=h
 subst e1
 cases r with
 | cons r rr =>
  rw [hs]
  refine assignInOrder_cons (thn (h1 pins s σ H _ _ _ I r h) fun _ s1 ⟨σ1,H1,I1,q1⟩=>?_)
  exact h2 pins s1 σ1 H1 _ _ Q I1 rr q1
noncomputable def gTup (K:PySem.W.Frag) (n:Nat) (t:TGs):TG:=fun v σ H Q=>Ex_2_4 (fun a xs=>v=.ref a) (fun a xs=>SqT K H a xs) (fun a xs=>xs.length=n) (fun a xs=>t xs σ H Q)
theorem pg_tup {es:List Expr} {k:Nat} {t:TGs} {n:Nat} (hc:X.calm=true) (h:PGs X es t)
  (hn:(assignEach es X.env).length=n:=by rfl) (hst:(assignEach es X.env).findIdx? (·.1)=none:=by rfl):PG X (.Tuple es k pos) (gTup X.K n t):=by
 intro pins s σ H v u Q I r hw
 obtain ⟨a,xs,e1,hq,hl,hw⟩:=hw
 subst e1
 cases r
 obtain ⟨its,rv,ht,hz⟩:=I.tuple hq
 refine assign_Tuple_tuple (I.ok.hd hc) ht (by simp [hn,← hl,rv.length]) hst fun h' hx=>?_
 have I1:Inv X pins σ H { s with heap:=h' }:=I.kept (t':=s.toks) fun b o e=>hx b o (Nat.ne_of_lt (Heap.lt_size e)) e
 exact h pins _ σ H xs _ Q I1 (by simpa using rv) hw
noncomputable def gSub (to ti:TE) (t:TSet):TG:=fun v σ H Q=>to σ H fun o H1=>ti σ H1 fun i H2=>t o i v H2 fun H3=>Q σ H3
theorem pg_sub {o i:Expr} {to ti:TE} {t:TSet} (ho:PE X o to) (hi:PE X i ti) (hs:PSet X t)
  (ha:∀ v,assign (.Subscript o i pos) X.env v=(do
   let ov ← holding [v] (eval o X.env)
   let iv ← holding [v,ov] (eval i X.env)
   standAt pos
   holding [v,ov,iv] (setItem ov iv v)
   release [v,ov,iv] []):=by intro _; rfl):PG X (.Subscript o i pos) (gSub to ti t):=by
 intro pins s σ H v u Q I r h
 rw [ha]
 refine wpAny_bind (wpAny_holding (thnE (ho pins s σ H _ I h) fun ov s1 x H1 I1 r1 q1=>?_))
 refine wpAny_bind (wpAny_holding (thnE (hi pins s1 σ H1 _ I1 q1) fun iv s2 y H2 I2 r2 q2=>?_))
 refine wpAny_bind (wpAny_standAt (wpAny_bind (wpAny_holding (thn (hs pins s2 σ H2 x y v ov iv u _ I2 r1 r2 r q2) fun _ s3 ⟨H3,I3,q3⟩=>?_))))
 exact wpAny_release ⟨σ,H3,I3,q3⟩
noncomputable def tAsg (te:TE) (g:TG):TS:=fun D σ H=>te σ H fun x H1=>g x σ H1 D.nx
theorem ps_asg {tg e:Expr} {te:TE} {g:TG} (he:PE X e te) (hg:PG X tg g) (hs:swapsWithSole [tg] e pos.line X.env=pure false:=by rfl) (hw:swappedStores [tg] e X.env=pure none:=by rfl)
  (h1:(assignEach [tg] X.env).map (·.2)=[assign tg X.env]:=by rfl):PS X (.Assign [tg] e pos) (tAsg te g):=by
 intro pins s σ H D I h
 refine wpAny_Assign_stores (thnE (he pins s σ H _ I h) fun v s1 x H1 I1 r1 q1=>?_) hs hw
 rw [h1]
 exact thn (hg pins s1 σ H1 x v _ I1 r1 q1) fun _ s2 q=>q
theorem ps_set {i:Nat} {x:Str} {e:Expr} {te:TE} {pos':Pos} (hN:X.N.Nodup) (hi:X.N[i]?=some x) (hx:Loc X.env.scope x) (he:PE X e te) (hs:swapsWith e (some (.Name x pos')) pos.line X.env=pure false:=by rfl) (hf:X.fn x=true∨X.env.scope.names.lookup x=some .local:=by first | exact .inl rfl | exact .inr rfl | assumption) :
  PS X (.Assign [.Name x pos'] e pos) (tAsg te (gName i)):=by
 intro pins s σ H D I h
 refine wpAny_Assign_Name (thnE (he pins s σ H _ I h) fun v s1 y H1 I1 r1 q1=>?_) hs
 exact store_ok I1 hN hi hx r1 (fun s2 I2=>⟨_,H1,I2,q1⟩) hf
end
section
variable {X:Cx} {pos:Pos}
noncomputable def tWhile (c:TT) (tb:TS):TS:=fun D σ H=>∃ W:Nat→St→Hp→Prop,(∃ m,W m σ H)∧∀ m σ H,W m σ H →
 c σ H fun b H1=>if b=true then ∃ N:St→Hp→Prop,(∀ σ' H',N σ' H'→∃ m',m' < m∧W m' σ' H')∧tb { D with nx:=N,ct:=N,bk:=D.nx } σ H1 else D.nx σ H1
theorem ps_while {c:Expr} {body:List Stmt} {tc:TT} {tb:TS} (hp:PassesOwn (model X.prog X.w) X.A X.env X.xe) (hc:PT X c tc) (hb:PSs X body tb):PS X (.While c body [] pos) (tWhile tc tb):=by
 intro pins s σ H D I h
 obtain ⟨W,⟨m0,w0⟩,turn⟩:=h
 refine wpAny_While (codeAny_whileLoop (fun n s'=>∃ σ' H',Inv X pins σ' H' s'∧W n σ' H') ?_ m0 ⟨σ,H,I,w0⟩)
 rintro n s1 ⟨σ1,H1,I1,w1⟩
 refine wpAny_passesOwn hp (thnT (hc pins s1 σ1 H1 _ I1 (turn n σ1 H1 w1)) fun b s2 H2 I2 q2=>?_)
 cases b with
 | true =>
  obtain ⟨N,hN,q2⟩:=q2
  rw [if_pos rfl]
  refine wpAny_passesOwn hp (thn (hb pins s2 σ1 H2 _ I2 q2) fun f s3 q3=>?_)
  cases f with
  | next =>
   obtain ⟨σ3,H3,I3,n3⟩:=q3
   obtain ⟨m',hm,w3⟩:=hN σ3 H3 n3
   exact ⟨m',hm,σ3,H3,I3,w3⟩
  | cont =>
   obtain ⟨σ3,H3,I3,n3⟩:=q3
   obtain ⟨m',hm,w3⟩:=hN σ3 H3 n3
   exact ⟨m',hm,σ3,H3,I3,w3⟩
  | brk=>exact q3
  | ret v=>exact q3
 | false =>
  rw [if_neg Bool.false_ne_true]
  exact wpAny_execs_nil ⟨σ1,H2,I2,q2⟩
end
structure It where
 go:Nat→Hp→Prop
 yld:Nat→Hp→V→Hp→Prop
 stop:Nat→Hp→Prop
noncomputable def FpOk (X:Cx) (pins:List (Addr×Obj)) (H:Hp) (b:Addr):Prop :=
 H b=none∧b≠X.env.locals∧b ∉ X.fs∧(b∈X.ex∨X.s₀.heap.objs.size≤b)∧(∀ x c,X.env.cells.lookup x=some c→c≠b)∧∀ p∈X.pn ++ pins,p.1≠b
theorem Inv.fpOk {X:Cx} {pins:List (Addr×Obj)} {σ:St} {H H':Hp} {s:Shared} {b:Addr} (I:Inv X pins σ H s) (hb:s.heap.objs.size≤b) (hn:H' b=none):FpOk X pins H' b:=by
 refine ⟨hn,Nat.ne_of_gt (Nat.lt_of_lt_of_le I.lt hb),I.nofs hb,.inr (Nat.le_trans I.sz hb),fun x c e z=>?_,fun p hp z=>?_⟩
 ·obtain ⟨v,q⟩:=I.cell x c e
  exact absurd (Nat.lt_of_lt_of_le q.lt (by rw [z]; exact hb)) (Nat.lt_irrefl _)
 ·exact absurd (Nat.lt_of_lt_of_le (Heap.lt_size (I.pin p hp).1) (by rw [z]; exact hb)) (Nat.lt_irrefl _)
structure Turn (P:Program) (w:World) (K:PySem.W.Frag) (tg:Expr) (J:It) (fp:List Addr) (it:Addr) (tn:Nat→Heap→Prop):Prop where
 mem:it∈fp
 obj:∀ i h,tn i h→∀ b∈fp,∃ o,h.get? b=some o∧∀ v,o.data≠.cell v
 keep:∀ i h h',tn i h→(∀ b∈fp,∀ o,h.get? b=some o→h'.get? b=some o)→tn i h'
 item:∀ (X:Cx),X.prog=P→X.w=w→X.K=K→X.calm=true→∀ (i:Nat) (pins:List (Addr×Obj)) (s:Shared) (σ:St) (H:Hp) (E:Value→Shared→Prop),Inv X pins σ H s→(∀ b∈fp,FpOk X pins H b)→tn i s.heap→J.go i H →
  wpAny (model P w) X.A (pyNext (.ref it)) (fun r s1=>∃ u,r=some u ∧
   wpAny (model P w) X.A (letOwnedTupleGo tg (.ref it) u) (fun _ s2=>Ex_2_5 (fun x H'=>Inv X pins σ H' s2) (fun x H'=>RelV x u) (fun x H'=>J.yld i H x H') (fun x H'=>tn (i + 1) s2.heap) (fun x H'=>∀ b∈fp,H' b=none)) E s1) E s
 done:∀ (X:Cx),X.prog=P→X.w=w→X.K=K→X.calm=true→∀ (i:Nat) (pins:List (Addr×Obj)) (s:Shared) (σ:St) (H:Hp) (E:Value→Shared→Prop),Inv X pins σ H s→(∀ b∈fp,FpOk X pins H b)→tn i s.heap→J.stop i H →
  wpAny (model P w) X.A (pyNext (.ref it)) (fun r s1=>r=none∧Inv X pins σ H s1) E s
 self:∀ (A:Around) (i:Nat) (s:Shared) (Q:Value→Shared→Prop) (E:Value→Shared→Prop),tn i s.heap→Q (.ref it) s→wpAny (model P w) A (pyIter (.ref it)) Q E s
noncomputable abbrev TI:=St→Hp→(It→Hp→Prop)→Prop
noncomputable def PIE (X:Cx) (pins:List (Addr×Obj)) (σ:St) (tg:Expr) (R:It→Hp→Prop) (itv:Value) (s2:Shared):Prop :=
 Ex_5_6 (fun (it:Addr) (fp:List Addr) (tn:Nat→Heap→Prop) (J:It) (H':Hp)=>itv=.ref it) (fun it fp tn J H'=>Inv X pins σ H' s2) (fun it fp tn J H'=>Turn X.prog X.w X.K tg J fp it tn) (fun it fp tn J H'=>tn 0 s2.heap) (fun it fp tn J H'=>(∀ b∈fp,FpOk X pins H' b)) (fun it fp tn J H'=>R J H')
noncomputable def PI (X:Cx) (tg iter:Expr) (wi:TI):Prop :=
 ∀ (pins:List (Addr×Obj)) (s:Shared) (σ:St) (H:Hp) (R:It→Hp→Prop),Inv X pins σ H s→wi σ H R →
  wpAny (model X.prog X.w) X.A (eval iter X.env) (fun v s1=>wpAny (model X.prog X.w) X.A (pyIter v) (PIE X pins σ tg R) X.xe s1) X.xe s
theorem go_of {M : Model} {A : Around} {E : Value → Shared → Prop} {s : Shared} {tg : Expr} {it : Addr} {u : Value} {o : Obj} {n : String} {vs : Array Value} {Q : Unit → Shared → Prop} (ho : s.heap.get? it = some o) (hc : o.cls = .type n) (hd : o.data = .fields vs)
    (hn : ["enumerate", "zip", "dict_itemiterator", "dict_reverseitemiterator", "odict_iterator", "itertools.zip_longest", "itertools.pairwise"].contains n = false) (hQ : Q () s) : wpAny M A (letOwnedTupleGo tg (.ref it) u) Q E s := by
  unfold letOwnedTupleGo
  cases tg <;> first
    | exact wpAny_pure hQ
    | (cases u <;> first
        | exact wpAny_pure hQ
        | (refine wpAny_bind (wpAny_load ho ?_)
           rw [hc, hd]
           show wpAny M A (if (["enumerate", "zip", "dict_itemiterator", "dict_reverseitemiterator", "odict_iterator", "itertools.zip_longest", "itertools.pairwise"].contains n && vs[0]? == some (rawInt _)) = true then _ else _) Q E s
           rw [if_neg (by intro h; rw [hn, Bool.false_and] at h; cases h)]
           exact wpAny_pure hQ))

noncomputable def Itl (K:PySem.W.Frag) (a:Addr):It :=
 ⟨fun i H=>Ex_2_2 (fun xs x=>SqL K H a xs) (fun xs x=>xs[i]?=some x),fun i H x H'=>H'=H∧∀ xs,SqL K H a xs→xs[i]?=some x,fun i H=>∃ xs,SqL K H a xs∧xs.length≤i⟩
noncomputable def Itt (K:PySem.W.Frag) (a:Addr):It :=
 ⟨fun i H=>Ex_2_2 (fun xs x=>SqT K H a xs) (fun xs x=>xs[i]?=some x),fun i H x H'=>H'=H∧∀ xs,SqT K H a xs→xs[i]?=some x,fun i H=>∃ xs,SqT K H a xs∧xs.length≤i⟩
noncomputable def Itr (lo:Int) (n:Nat):It:=⟨fun i _=>i < n,fun i H x H'=>H'=H∧x=.int (lo + i),fun i _=>n≤i⟩
theorem turn_list {P:Program} {w:World} {K:PySem.W.Frag} {tg:Expr} (a it:Addr):Turn P w K tg (Itl K a) [it] it (fun i h=>h.IsListIter it a i) where
 mem:=by simp
 obj:=fun i h st b hb=>by
  have e:b=it:=by simpa using hb
  subst e
  obtain ⟨o,e,c,d⟩:=st
  exact ⟨o,e,fun v z=>by rw [d] at z; cases z⟩
 keep:=fun i h h' st k=>st.at fun o e=>k it (by simp) o e
 item:=by
  intro X hP hw hK hc i pins s σ H E I hf st hg
  subst hP hw hK
  obtain ⟨xs,x,hq,hx⟩:=hg
  obtain ⟨its,rv,p,hz⟩:=I.list hq
  obtain ⟨u,hu,ru⟩:=rv.get hx
  obtain ⟨f0,f1,f2,f3,f4,f5⟩:=hf it (by simp)
  refine wpAny_pyNext_list_item st p.isList (x:=u) (by simpa using hu) fun h' st' sb=>?_
  have I1:Inv X pins σ H { s with heap:=h' }:=I.turned (t':=s.toks) (fun b o hb e=>(sb.2 b hb).trans e) f0 f1 f3 f4 f5
  obtain ⟨o,e,c,d⟩:=id st'
  exact ⟨u,rfl,go_of (s:={ s with heap:=h' }) e c d (by decide) ⟨x,H,I1,ru,⟨rfl,fun ys hy=>by rw [I.list_inj hy hq]; exact hx⟩,st',fun b hb=>(hf b hb).1⟩⟩
 done:=by
  intro X hP hw hK hc i pins s σ H E I hf st hg
  subst hP hw hK
  obtain ⟨xs,hq,hx⟩:=hg
  obtain ⟨its,rv,p,hz⟩:=I.list hq
  obtain ⟨f0,f1,f2,f3,f4,f5⟩:=hf it (by simp)
  have hl:=rv.length
  exact wpAny_pyNext_list_end (I.ok.hd hc) st p.isList (by simp; lia) fun h' eb=>⟨rfl,I.turned (t':=s.toks) (fun b o hb e=>eb b o hb e) f0 f1 f3 f4 f5⟩
 self:=fun _ _ _ _ _ st h=>wpAny_pyIter_listiter st h
theorem turn_tuple {P:Program} {w:World} {K:PySem.W.Frag} {tg:Expr} (a it:Addr):Turn P w K tg (Itt K a) [it] it (fun i h=>h.IsTupleIter it a i) where
 mem:=by simp
 obj:=fun i h st b hb=>by
  have e:b=it:=by simpa using hb
  subst e
  obtain ⟨o,e,c,d⟩:=st
  exact ⟨o,e,fun v z=>by rw [d] at z; cases z⟩
 keep:=fun i h h' st k=>st.at fun o e=>k it (by simp) o e
 item:=by
  intro X hP hw hK hc i pins s σ H E I hf st hg
  subst hP hw hK
  obtain ⟨xs,x,hq,hx⟩:=hg
  obtain ⟨its,rv,p,hz⟩:=I.tuple hq
  obtain ⟨u,hu,ru⟩:=rv.get hx
  obtain ⟨f0,f1,f2,f3,f4,f5⟩:=hf it (by simp)
  refine wpAny_pyNext_tuple_item st (show s.heap.IsTuple a its.toArray from p) (x:=u) (by simpa using hu) fun h' st' sb=>?_
  have I1:Inv X pins σ H { s with heap:=h' }:=I.turned (t':=s.toks) (fun b o hb e=>(sb.2 b hb).trans e) f0 f1 f3 f4 f5
  obtain ⟨o,e,c,d⟩:=id st'
  exact ⟨u,rfl,go_of (s:={ s with heap:=h' }) e c d (by decide) ⟨x,H,I1,ru,⟨rfl,fun ys hy=>by rw [I.tuple_inj hy hq]; exact hx⟩,st',fun b hb=>(hf b hb).1⟩⟩
 done:=by
  intro X hP hw hK hc i pins s σ H E I hf st hg
  subst hP hw hK
  obtain ⟨xs,hq,hx⟩:=hg
  obtain ⟨its,rv,p,hz⟩:=I.tuple hq
  obtain ⟨f0,f1,f2,f3,f4,f5⟩:=hf it (by simp)
  have hl:=rv.length
  exact wpAny_pyNext_tuple_end (I.ok.hd hc) st (show s.heap.IsTuple a its.toArray from p) (by simp; lia) fun h' eb=>⟨rfl,I.turned (t':=s.toks) (fun b o hb e=>eb b o hb e) f0 f1 f3 f4 f5⟩
 self:=fun _ _ _ _ _ st h=>wpAny_pyIter_tupleiter st h
theorem turn_range {P:Program} {w:World} {K:PySem.W.Frag} {tg:Expr} (it:Addr) (lo:Int) (n:Nat):Turn P w K tg (Itr lo n) [it] it (fun i h=>IsRangeIter h it (lo + (i:Nat) * 1) ((n:Int) - (i:Nat)) 1) where
 mem:=by simp
 obj:=fun i h st b hb=>by
  have e:b=it:=by simpa using hb
  subst e
  exact ⟨_,st,fun v z=>by
   have z':Data.fields _=Data.cell v:=z
   cases z'⟩
 keep:=fun i h h' st k=>k it (by simp) _ st
 item:=by
  intro X hP hw hK hc i pins s σ H E I hf st hg
  subst hP hw hK
  obtain ⟨f0,f1,f2,f3,f4,f5⟩:=hf it (by simp)
  have W:=Walks.range (prog:=X.prog) (w:=X.w) (I.ok.hd hc) it lo 1 n
  refine W.item i s _ _ hg st fun v h' tk hv st' kk=>?_
  obtain ⟨t,rfl⟩:=hv
  have I1:Inv X pins σ H { s with heap:=h',toks:=tk }:=I.turned (fun b o hb e=>kk b o (by simpa using hb) e) f0 f1 f3 f4 f5
  refine ⟨_,rfl,go_of (s:={ s with heap:=h',toks:=tk }) (n:="range_iterator") st' rfl rfl (by decide) ⟨.int (lo + i),H,I1,⟨t,?_⟩,⟨rfl,rfl⟩,st',fun b hb=>(hf b hb).1⟩⟩
  rw [Int.mul_one]
 done:=by
  intro X hP hw hK hc i pins s σ H E I hf st hg
  subst hP hw hK
  obtain ⟨f0,f1,f2,f3,f4,f5⟩:=hf it (by simp)
  exact wpAny_pyNext_range_end (I.ok.hd hc) st (by have:n≤i:=hg; lia) fun h' eb=>⟨rfl,I.turned (t':=s.toks) (fun b o hb e=>eb b o hb e) f0 f1 f3 f4 f5⟩
 self:=fun _ _ _ _ _ st h=>wpAny_pyIter_rangeiter st h
end L2
namespace L2
open PySem PySem.Spec PyProof.Rows
section
variable {X:Cx} {tg:Expr}
noncomputable def iList (K:PySem.W.Frag) (tl:TE):TI:=fun σ H R=>tl σ H fun x H1=>Ex_1_3 (fun a=>x=.ref a) (fun a=>(Ex_1_1 (fun xs=>SqL K H1 a xs))) (fun a=>R (Itl K a) H1)
noncomputable def iTup (K:PySem.W.Frag) (tl:TE):TI:=fun σ H R=>tl σ H fun x H1=>Ex_1_3 (fun a=>x=.ref a) (fun a=>(Ex_1_1 (fun xs=>SqT K H1 a xs))) (fun a=>R (Itt K a) H1)
theorem pi_list {l:Expr} {tl:TE} (hl:PE X l tl):PI X tg l (iList X.K tl):=by
 intro pins s σ H R I h
 refine thnE (hl pins s σ H _ I h) fun v s1 x H1 I1 r1 q1=>?_
 obtain ⟨a,e,⟨xs,hq⟩,q⟩:=q1
 subst e
 cases r1
 obtain ⟨its,rv,p,hz⟩:=I1.list hq
 refine wpAny_pyIter_list p.isList ?_
 refine ⟨s1.heap.objs.size,[s1.heap.objs.size],_,_,H1,rfl,I1.kept (t':=s1.toks) fun b o e=>Heap.get?_push_of_some _ e,turn_list a _,⟨_,Heap.get?_push_size _ rfl,rfl,rfl⟩,fun b hb=>?_,q⟩
 have e:b=s1.heap.objs.size:=by simpa using hb
 subst e
 exact I1.fpOk (Nat.le_refl _) (I1.hok.fresh (Nat.le_refl _))
theorem pi_tup {l:Expr} {tl:TE} (hl:PE X l tl):PI X tg l (iTup X.K tl):=by
 intro pins s σ H R I h
 refine thnE (hl pins s σ H _ I h) fun v s1 x H1 I1 r1 q1=>?_
 obtain ⟨a,e,⟨xs,hq⟩,q⟩:=q1
 subst e
 cases r1
 obtain ⟨its,rv,p,hz⟩:=I1.tuple hq
 refine wpAny_pyIter_tuple (show s1.heap.IsTuple a its.toArray from p) ?_
 refine ⟨s1.heap.objs.size,[s1.heap.objs.size],_,_,H1,rfl,I1.kept (t':=s1.toks) fun b o e=>Heap.get?_push_of_some _ e,turn_tuple a _,⟨_,Heap.get?_push_size _ rfl,rfl,rfl⟩,fun b hb=>?_,q⟩
 have e:b=s1.heap.objs.size:=by simpa using hb
 subst e
 exact I1.fpOk (Nat.le_refl _) (I1.hok.fresh (Nat.le_refl _))
theorem range_it {pins:List (Addr×Obj)} {σ:St} {H:Hp} {s:Shared} {R:It→Hp→Prop} {E:Value→Shared→Prop} {lo hi:Int} {t u v:Tok} {tk:Nat} (I:Inv X pins σ H s) (h1:-(2 ^ 62)≤lo) (h2:lo < 2 ^ 62) (h3:-(2 ^ 62)≤hi) (h4:hi < 2 ^ 62)
  (q:R (Itr lo (hi - lo).toNat) H):wpAny (model X.prog X.w) X.A (pyIter (.ref s.heap.objs.size)) (PIE X pins σ tg R) E { s with heap:=s.heap.push { cls:=.type "range",data:=.fields #[.int lo t,.int hi u,.int 1 v] },toks:=tk }:=by
 refine wpAny_pyIter_range (IsRange.new ..) (small_one h1 h2 h3 h4) ?_
 have I1:Inv X pins σ H { s with heap:=s.heap.push { cls:=.type "range",data:=.fields #[.int lo t,.int hi u,.int 1 v] },toks:=tk }:=I.kept fun b o e=>Heap.get?_push_of_some _ e
 refine ⟨(s.heap.push { cls:=.type "range",data:=.fields #[.int lo t,.int hi u,.int 1 v] }).objs.size,[(s.heap.push { cls:=.type "range",data:=.fields #[.int lo t,.int hi u,.int 1 v] }).objs.size],_,_,H,rfl,
  I1.kept (t':=tk) fun b o e=>Heap.get?_push_of_some _ e,turn_range _ lo (hi - lo).toNat,?_,fun b hb=>?_,q⟩
 ·have e1:lo + ((0:Nat):Int) * 1=lo:=by simp
  have e2:(((hi - lo).toNat:Nat):Int) - ((0:Nat):Int)=Builtin.Range.rangeSize lo hi 1:=by rw [rangeSize_one]; split <;> lia
  show IsRangeIter _ _ (lo + ((0:Nat):Int) * 1) ((((hi - lo).toNat:Nat):Int) - ((0:Nat):Int)) 1
  rw [e1,e2]
  exact Heap.get?_push_size _ rfl
 ·have e:b=(s.heap.push { cls:=.type "range",data:=.fields #[.int lo t,.int hi u,.int 1 v] }).objs.size:=by simpa using hb
  subst e
  exact I1.fpOk (Nat.le_refl _) (I1.hok.fresh (Nat.le_refl _))
noncomputable def iRng1 (ta:TA):TI:=fun σ H R=>ta σ H fun vs H1=>Ex_1_4 (fun (j:Int)=>vs=[.int j]) (fun j=>-(2 ^ 62)≤j) (fun j=>j < 2 ^ 62) (fun j=>R (Itr 0 j.toNat) H1)
theorem pi_range1 {a:Expr} {ta:TA} {p pos:Pos} (hg:Gl X "range") (hm:X.mg "range"=none) (ha:PA X [a] ta) (hs:starEach [a] X.env=[(false,eval a X.env)]:=by rfl):PI X tg (.Call (.Name "range" p) [a] [] pos) (iRng1 ta):=by
 intro pins s σ H R I h
 refine Call_ (ld_blt I hg hm boot_range (PyProof.Rows.callWith_type1 (thnA (ha pos pins s σ H _ I h) fun us s1 vs H1 I1 r1 q1=>?_) hs rfl))
 obtain ⟨j,e,q1,q2,q⟩:=q1
 subst e
 cases r1 with
 | cons r rr =>
  cases rr
  obtain ⟨t,rfl⟩:=r
  exact call_range_1 (range_it I1 (by lia) (by lia) q1 q2 (by simpa using q))
noncomputable def tFor (wi:TI) (g:TG) (tb:TS):TS:=fun D σ H=>wi σ H fun J H1=>∃ W:Nat→Nat→St→Hp→Prop,(∃ m,W 0 m σ H1)∧∀ i m σ H,W i m σ H →
 (J.stop i H∧D.nx σ H)∨(J.go i H∧∃ N:St→Hp→Prop,(∀ σ' H',N σ' H'→∃ m',m' < m∧W (i + 1) m' σ' H')∧∀ x H',J.yld i H x H'→g x σ H' fun σ2 H2=>tb { D with nx:=N,ct:=N,bk:=D.nx } σ2 H2)
noncomputable def pinsAt (fp:List Addr) (h:Heap):List (Addr×Obj):=fp.filterMap fun b=>(h.get? b).map fun o=>(b,o)
theorem mem_pinsAt {fp:List Addr} {h:Heap} {b:Addr} {o:Obj} (hb:b∈fp) (e:h.get? b=some o):(b,o)∈pinsAt fp h:=List.mem_filterMap.mpr ⟨b,hb,by rw [e]; rfl⟩
theorem of_pinsAt {fp:List Addr} {h:Heap} {p:Addr×Obj} (hp:p∈pinsAt fp h):p.1∈fp∧h.get? p.1=some p.2:=by
 obtain ⟨b,hb,e⟩:=List.mem_filterMap.mp hp
 cases q:h.get? b with
 | none=>rw [q] at e; cases e
 | some o =>
  rw [q] at e
  have e':(b,o)=p:=Option.some.inj e
  subst e'
  exact ⟨hb,q⟩
theorem Inv.pinned {pins:List (Addr×Obj)} {σ:St} {H:Hp} {s:Shared} {fp:List Addr} (I:Inv X pins σ H s) (hf:∀ b∈fp,FpOk X pins H b) (ho:∀ b∈fp,∃ o,s.heap.get? b=some o∧∀ v,o.data≠.cell v):Inv X (pins ++ pinsAt fp s.heap) σ H s :=
 I.pins_of fun p hp=>(List.mem_append.mp hp).elim (fun z=>I.pin p (List.mem_append_right _ z)) fun z=>by
  obtain ⟨hb,e⟩:=of_pinsAt z
  obtain ⟨f0,f1,f2,_⟩:=hf p.1 hb
  obtain ⟨o,e',d⟩:=ho p.1 hb
  rw [e] at e'; cases e'
  exact ⟨e,f0,f1,f2,d⟩
theorem Inv.unpinned {pins pl:List (Addr×Obj)} {σ:St} {H:Hp} {s:Shared} (I:Inv X (pins ++ pl) σ H s):Inv X pins σ H s:=I.pins_of fun p hp=>I.pin p (List.mem_append_right _ (List.mem_append_left _ hp))
theorem ps_for {iter:Expr} {body:List Stmt} {wi:TI} {g:TG} {tb:TS} {pos:Pos} (hp:PassesOwn (model X.prog X.w) X.A X.env X.xe) (hc:X.calm=true) (hi:PI X tg iter wi) (hg:PG X tg g) (hb:PSs X body tb)
  (hs:∀ x,foldedSetIterable iter X.env x=pure x:=by intro _; rfl):PS X (.For tg iter body [] pos) (tFor wi g tb):=by
 intro pins s σ H D I h
 refine wpAny_For (thn (hi pins s σ H _ I h) fun v s1 h1=>thn h1 fun itv s2 h2=>?_) hs
 obtain ⟨it,fp,tn,J,H2,e,I2,T,st2,f2,W,⟨m0,w0⟩,turn⟩:=h2
 subst e
 have stat:∀ {H':Hp},(∀ b∈fp,H' b=none)→∀ b∈fp,FpOk X pins H' b:=fun hn b hb=>⟨hn b hb,(f2 b hb).2⟩
 refine codeAny_forLoop_any (fun n s'=>∃ i σ' H',Inv X pins σ' H' s'∧tn i s'.heap∧(∀ b∈fp,H' b=none)∧W i n σ' H') ?_ m0 ⟨0,σ,H2,I2,st2,fun b hb=>(f2 b hb).1,w0⟩
 rintro n s3 ⟨i,σ3,H3,I3,st3,fr3,w3⟩
 rcases turn i n σ3 H3 w3 with ⟨stop,qn⟩ | ⟨go,N,hN,step⟩
 ·refine wpAny_passesOwn hp (thn (T.done X rfl rfl rfl hc i pins s3 σ3 H3 X.xe I3 (stat fr3) st3 stop) fun r s4 ⟨hr,I4⟩=>?_)
  subst hr
  exact wpAny_execs_nil ⟨σ3,H3,I4,qn⟩
 ·refine wpAny_passesOwn hp (thn (T.item X rfl rfl rfl hc i pins s3 σ3 H3 X.xe I3 (stat fr3) st3 go) fun r s4 ⟨u,hr,h4⟩=>?_)
  subst hr
  refine wpAny_passesOwn hp (thn h4 fun _ s5 ⟨x,H5,I5,r5,y5,st5,fr5⟩=>?_)
  have I5':=I5.pinned (stat fr5) (T.obj _ _ st5)
  refine wpAny_passesOwn hp (thn (hg _ s5 σ3 H5 x u _ I5' r5 (step x H5 y5)) fun _ s6 ⟨σ6,H6,I6,q6⟩=>?_)
  refine wpAny_passesOwn hp (thn (hb _ s6 σ6 H6 _ I6 q6) fun f s7 q7=>?_)
  have again:∀ {σ7:St} {H7:Hp},Inv X (pins ++ pinsAt fp s5.heap) σ7 H7 s7→N σ7 H7→∃ m,m < n∧∃ i σ' H',Inv X pins σ' H' s7∧tn i s7.heap∧(∀ b∈fp,H' b=none)∧W i m σ' H':=fun {σ7 H7} I7 n7=>by
   obtain ⟨m',hm,w7⟩:=hN σ7 H7 n7
   refine ⟨m',hm,i + 1,σ7,H7,I7.unpinned,T.keep _ _ _ st5 fun b hb o e=>(I7.pin (b,o) (List.mem_append_right _ (List.mem_append_right _ (mem_pinsAt hb e)))).1,fun b hb=>?_,w7⟩
   obtain ⟨o,e,d⟩:=T.obj _ _ st5 b hb
   exact (I7.pin (b,o) (List.mem_append_right _ (List.mem_append_right _ (mem_pinsAt hb e)))).2.1
  cases f with
  | next=>obtain ⟨σ7,H7,I7,n7⟩:=q7; exact again I7 n7
  | cont=>obtain ⟨σ7,H7,I7,n7⟩:=q7; exact again I7 n7
  | brk=>obtain ⟨σ7,H7,I7,q7⟩:=q7; exact ⟨σ7,H7,I7.unpinned,q7⟩
  | ret v=>obtain ⟨x7,σ7,H7,I7,r7,q7⟩:=q7; exact ⟨x7,σ7,H7,I7.unpinned,r7,q7⟩
end
theorem for_list {K:PySem.W.Frag} {a:Addr} {xs:List V} {g:TG} {tb:TS} {D:Ends} {σ:St} {H:Hp} (Pv:Nat→St→Hp→Prop) (h0:Pv 0 σ H) (hl:∀ i σ H,i≤xs.length→Pv i σ H→SqL K H a xs)
  (hs:∀ i x σ H,xs[i]?=some x→Pv i σ H→g x σ H fun σ2 H2=>tb { D with nx:=Pv (i + 1),ct:=Pv (i + 1),bk:=D.nx } σ2 H2) (hd:∀ σ H,Pv xs.length σ H→D.nx σ H) :
  ∃ W:Nat→Nat→St→Hp→Prop,(∃ m,W 0 m σ H)∧∀ i m σ H,W i m σ H →
   ((Itl K a).stop i H∧D.nx σ H)∨((Itl K a).go i H∧∃ N:St→Hp→Prop,(∀ σ' H',N σ' H'→∃ m',m' < m∧W (i + 1) m' σ' H')∧∀ x H',(Itl K a).yld i H x H'→g x σ H' fun σ2 H2=>tb { D with nx:=N,ct:=N,bk:=D.nx } σ2 H2):=by
 refine ⟨fun i m σ H=>m=xs.length - i∧i≤xs.length∧Pv i σ H,⟨xs.length,by simp,Nat.zero_le _,h0⟩,?_⟩
 rintro i m σ H ⟨rfl,hi,p⟩
 have q:=hl i σ H hi p
 by_cases hlt:i < xs.length
 ·refine .inr ⟨⟨xs,xs[i],q,by simp [hlt]⟩,Pv (i + 1),fun σ' H' p'=>⟨xs.length - (i + 1),by lia,rfl,hlt,p'⟩,fun x H' y=>?_⟩
  obtain ⟨e,y⟩:=y
  subst e
  exact hs i x σ _ (y xs q) p
 ·have e:i=xs.length:=by lia
  subst e
  exact .inl ⟨⟨xs,q,Nat.le_refl _⟩,hd σ H p⟩
theorem for_range {lo:Int} {n:Nat} {g:TG} {tb:TS} {D:Ends} {σ:St} {H:Hp} (Pv:Nat→St→Hp→Prop) (h0:Pv 0 σ H)
  (hs:∀ i σ H,i < n→Pv i σ H→g (.int (lo + i)) σ H fun σ2 H2=>tb { D with nx:=Pv (i + 1),ct:=Pv (i + 1),bk:=D.nx } σ2 H2) (hd:∀ σ H,Pv n σ H→D.nx σ H) :
  ∃ W:Nat→Nat→St→Hp→Prop,(∃ m,W 0 m σ H)∧∀ i m σ H,W i m σ H →
   ((Itr lo n).stop i H∧D.nx σ H)∨((Itr lo n).go i H∧∃ N:St→Hp→Prop,(∀ σ' H',N σ' H'→∃ m',m' < m∧W (i + 1) m' σ' H')∧∀ x H',(Itr lo n).yld i H x H'→g x σ H' fun σ2 H2=>tb { D with nx:=N,ct:=N,bk:=D.nx } σ2 H2):=by
 refine ⟨fun i m σ H=>m=n - i∧i≤n∧Pv i σ H,⟨n,by simp,Nat.zero_le _,h0⟩,?_⟩
 rintro i m σ H ⟨rfl,hi,p⟩
 by_cases hlt:i < n
 ·refine .inr ⟨hlt,Pv (i + 1),fun σ' H' p'=>⟨n - (i + 1),by lia,rfl,hlt,p'⟩,fun x H' y=>?_⟩
  obtain ⟨e,y⟩:=y
  subst e y
  exact hs i σ _ hlt p
 ·have e:i=n:=by lia
  subst e
  exact .inl ⟨Nat.le_refl _,hd σ H p⟩
end L2
namespace L2
open PySem PySem.Spec PyProof.Rows
noncomputable abbrev R2:=V→V→Hp→VK→Prop
noncomputable def OpR (X:Cx) (f:Value→Value→Sem Value) (r:R2):Prop :=
 ∀ (pins:List (Addr×Obj)) (s:Shared) (σ:St) (H:Hp) (x y:V) (v u:Value) (Q:VK),Inv X pins σ H s→RelV x v→RelV y u→r x y H Q →
  wpAny (model X.prog X.w) X.A (f v u) (EP X pins σ Q) X.xe s
noncomputable def UnR (X:Cx) (f:Value→Sem Value) (r:V→Hp→VK→Prop):Prop :=
 ∀ (pins:List (Addr×Obj)) (s:Shared) (σ:St) (H:Hp) (x:V) (v:Value) (Q:VK),Inv X pins σ H s→RelV x v→r x H Q →
  wpAny (model X.prog X.w) X.A (f v) (EP X pins σ Q) X.xe s
noncomputable def CallR (X:Cx) (f:Value) (r:List V→Hp→VK→Prop):Prop :=
 ∀ (pins:List (Addr×Obj)) (s:Shared) (σ:St) (H:Hp) (xs:List V) (us:List Value) (Q:VK),Inv X pins σ H s→Vals xs us→r xs H Q →
  wpAny (model X.prog X.w) X.A (call f us) (EP X pins σ Q) X.xe s
noncomputable def tOp (r:R2) (ta tb:TE):TE:=fun σ H Q=>ta σ H fun x H1=>tb σ H1 fun y H2=>r x y H2 Q
noncomputable def tUn (r:V→Hp→VK→Prop) (ta:TE):TE:=fun σ H Q=>ta σ H fun x H1=>r x H1 Q
noncomputable def rI (C:Int→Int→Prop) (g:Int→Int→V):R2:=fun x y H Q=>Ex_2_4 (fun i j=>x=.int i) (fun i j=>y=.int j) (fun i j=>C i j) (fun i j=>Q (g i j) H)
noncomputable def rI0 (g:Int→Int→V):R2:=fun x y H Q=>Ex_2_3 (fun i j=>x=.int i) (fun i j=>y=.int j) (fun i j=>Q (g i j) H)
noncomputable def rU (g:Int→V):V→Hp→VK→Prop:=fun x H Q=>Ex_1_2 (fun i=>x=.int i) (fun i=>Q (g i) H)
section
variable {X:Cx} {a b c:Expr} {ta tb tc:TE} {pos:Pos}
theorem binT (ha:PE X a ta) (hb:PE X b tb) {pins:List (Addr×Obj)} {s:Shared} {σ:St} {H:Hp} {R:V→V→Hp→Prop} (I:Inv X pins σ H s)
  (h:ta σ H fun x H1=>tb σ H1 fun y H2=>R x y H2) {Q:Value→Shared→Prop} {f:Value→Value→Sem Value}
  (hf:∀ v u s2 x y H2,Inv X pins σ H2 s2→RelV x v→RelV y u→R x y H2→wpAny (model X.prog X.w) X.A (f v u) Q X.xe s2) :
  wpAny (model X.prog X.w) X.A (eval a X.env) (fun v s₁=>wpAny (model X.prog X.w) X.A (eval b X.env) (fun u s₂=>wpAny (model X.prog X.w) X.A (f v u) Q X.xe s₂) X.xe s₁) X.xe s:=by
 refine thnE (ha pins s σ H _ I h) fun v s1 x H1 I1 r1 q1=>?_
 refine thnE (hb pins s1 σ H1 _ I1 q1) fun u s2 y H2 I2 r2 q2=>?_
 exact hf v u s2 x y H2 I2 r1 r2 q2
theorem pe_op {op:Operator} {r:R2} (ho:OpR X (binaryOp op) r) (ha:PE X a ta) (hb:PE X b tb):PE X (.BinOp a op b pos) (tOp r ta tb):=by
 intro pins s σ H Q I h
 exact wpAny_BinOp (binT ha hb I h fun v u s2 x y H2 I2 rx ry q=>ho pins s2 σ H2 x y v u Q I2 rx ry q)
theorem pe_un {op:UnaryOp} {r:V→Hp→VK→Prop} (ho:UnR X (unaryOp op) r) (ha:PE X a ta):PE X (.UnaryOp op a pos) (tUn r ta):=by
 intro pins s σ H Q I h
 exact UnaryOp_ (thnE (ha pins s σ H _ I h) fun v s1 x H1 I1 r1 q1=>ho pins s1 σ H1 x v Q I1 r1 q1)
theorem opI {f:Value→Value→Sem Value} {C:Int→Int→Prop} {g:Int→Int→Int}
  (rule:∀ (i j:Int) (t u:Tok) (s:Shared) (Q:Value→Shared→Prop) (E:Value→Shared→Prop),C i j→Q (.int (g i j) s.toks) { s with toks:=s.toks + 1 }→wpAny (model X.prog X.w) X.A (f (.int i t) (.int j u)) Q E s) :
  OpR X f (rI C fun i j=>.int (g i j)):=by
 intro pins s σ H x y v u Q I rx ry h
 obtain ⟨i,j,rfl,rfl,hc,q⟩:=h
 obtain ⟨t,rfl⟩:=rx
 obtain ⟨t',rfl⟩:=ry
 exact rule i j t t' s _ _ hc ⟨.int (g i j),H,I.tok _,⟨_,rfl⟩,q⟩
theorem opI0 {f:Value→Value→Sem Value} {g:Int→Int→Int}
  (rule:∀ (i j:Int) (t u:Tok) (s:Shared) (Q:Value→Shared→Prop) (E:Value→Shared→Prop),Q (.int (g i j) s.toks) { s with toks:=s.toks + 1 }→wpAny (model X.prog X.w) X.A (f (.int i t) (.int j u)) Q E s) :
  OpR X f (rI0 fun i j=>.int (g i j)):=by
 intro pins s σ H x y v u Q I rx ry h
 obtain ⟨i,j,rfl,rfl,q⟩:=h
 obtain ⟨t,rfl⟩:=rx
 obtain ⟨t',rfl⟩:=ry
 exact rule i j t t' s _ _ ⟨.int (g i j),H,I.tok _,⟨_,rfl⟩,q⟩
theorem opB0 {f:Value→Value→Sem Value} {g:Int→Int→Bool}
  (rule:∀ (i j:Int) (t u:Tok) (s:Shared) (Q:Value→Shared→Prop) (E:Value→Shared→Prop),Q (.bool (g i j)) s→wpAny (model X.prog X.w) X.A (f (.int i t) (.int j u)) Q E s) :
  OpR X f (rI0 fun i j=>.bl (g i j)):=by
 intro pins s σ H x y v u Q I rx ry h
 obtain ⟨i,j,rfl,rfl,q⟩:=h
 obtain ⟨t,rfl⟩:=rx
 obtain ⟨t',rfl⟩:=ry
 exact rule i j t t' s _ _ ⟨.bl (g i j),H,I,rfl,q⟩
noncomputable def CDiv (i j:Int):Prop:=0 < j∧j < 1073741824
noncomputable def CPow (i j:Int):Prop:=0≤j∧j≤1000000∧i.natAbs < 2 ^ 64
noncomputable def CMul (i j:Int):Prop:=(-(2 ^ 64) < i∧i < 2 ^ 64)∨(-(2 ^ 64) < j∧j < 2 ^ 64)
theorem CMul.ok {i j:Int} (h:CMul i j):IntMulOk i j:=by
 rcases h with ⟨h1,h2⟩ | ⟨h1,h2⟩
 ·exact .of_left (intBits_le_64 h1 h2)
 ·exact .of_right (intBits_le_64 h1 h2)
theorem op_add:OpR X (binaryOp .Add) (rI0 fun i j=>.int (i + j)):=opI0 fun _ _ _ _ _ _ _ q=>add_int q
theorem op_sub:OpR X (binaryOp .Sub) (rI0 fun i j=>.int (i - j)):=opI0 fun _ _ _ _ _ _ _ q=>sub_int q
theorem op_mul:OpR X (binaryOp .Mult) (rI CMul fun i j=>.int (i * j)):=opI fun _ _ _ _ _ _ _ hc q=>mul_int q hc.ok
theorem op_fdiv:OpR X (binaryOp .FloorDiv) (rI CDiv fun i j=>.int (i / j)):=opI fun i j _ _ _ _ _ hc q=>by
 have h1:(0:Int) < j:=hc.1
 have h2:j < 1073741824:=hc.2
 exact floordiv_int (by lia) (by rw [Int.fdiv_eq_ediv_of_nonneg i (by lia)]; exact q) (.inl (PyProof.noPylong_small (by lia)))
theorem op_mod:OpR X (binaryOp .Mod) (rI (fun _ j=>0 < j) fun i j=>.int (i % j)):=opI fun i j _ _ _ _ _ hc q=>by
 have h1:(0:Int) < j:=hc
 exact mod_int' (by lia) (by rw [Int.fmod_eq_emod_of_nonneg i (by lia)]; exact q)
theorem op_pow:OpR X (binaryOp .Pow) (rI CPow fun i j=>.int (i ^ j.toNat)):=opI fun _ _ _ _ _ _ _ hc q=>pow_int_small hc.1 hc.2.1 hc.2.2 q
theorem unI {f:Value→Sem Value} {g:Int→Int}
  (rule:∀ (i:Int) (t:Tok) (s:Shared) (Q:Value→Shared→Prop) (E:Value→Shared→Prop),Q (.int (g i) s.toks) { s with toks:=s.toks + 1 }→wpAny (model X.prog X.w) X.A (f (.int i t)) Q E s) :
  UnR X f (rU fun i=>.int (g i)):=by
 intro pins s σ H x v Q I rx h
 obtain ⟨i,rfl,q⟩:=h
 obtain ⟨t,rfl⟩:=rx
 exact rule i t s _ _ ⟨.int (g i),H,I.tok _,⟨_,rfl⟩,q⟩
theorem un_neg:UnR X (unaryOp .USub) (rU fun i=>.int (-i)):=unI fun _ _ _ _ _ q=>neg_int q
end
noncomputable def scal:V→V→Bool
 | .non,.non=>true | .non,.int _=>true | .int _,.non=>true | .non,.bl _=>true | .bl _,.non=>true | .non,.str _=>true | .str _,.non=>true
 | .int _,.int _=>true | .bl _,.bl _=>true | .str _,.str _=>true | .byt _,.byt _=>true
 | .int _,.str _=>true | .str _,.int _=>true | .bl _,.str _=>true | .str _,.bl _=>true
 | _,_=>false
noncomputable def rEq:R2:=fun x y H Q=>scal x y=true∧Q (.bl (decide (x=y))) H
noncomputable def rNe:R2:=fun x y H Q=>scal x y=true∧Q (.bl (!decide (x=y))) H
theorem dec_int {i j:Int}:decide (V.int i=V.int j)=(i == j):=by
 rw [Bool.eq_iff_iff]
 simp
theorem dec_bl {i j:Bool}:decide (V.bl i=V.bl j)=(i == j):=by
 rw [Bool.eq_iff_iff]
 simp
theorem dec_str {i j:Str}:decide (V.str i=V.str j)=(i == j):=by
 rw [Bool.eq_iff_iff]
 simp
theorem dec_byt {i j:Array UInt8}:decide (V.byt i=V.byt j)=(i.toList == j.toList):=by
 rw [Bool.eq_iff_iff]
 cases i
 cases j
 simp
section
variable {X:Cx} {a b c:Expr} {ta tb tc:TE} {pos:Pos}
theorem fin_bl {pins:List (Addr×Obj)} {σ:St} {H:Hp} {s:Shared} {Q:VK} {k k':Bool} (I:Inv X pins σ H s) (q:Q (.bl k) H) (e:k=k'):EP X pins σ Q (.bool k') s:=by
 subst e
 exact ⟨.bl k,H,I,rfl,q⟩
theorem op_eq:OpR X (compareOp .Eq) rEq:=by
 intro pins s σ H x y v u Q I rx ry h
 obtain ⟨hs,q⟩:=h
 cases x with
 | non =>
  cases rx
  cases y with
  | non=>cases ry; exact PySem.EqNone.eq_none_none (fin_bl I q rfl)
  | bl j=>cases ry; exact PySem.EqNone.eq_none_bool (fin_bl I q rfl)
  | int j=>obtain ⟨t',rfl⟩:=ry; exact PySem.EqNone.eq_none_int (fin_bl I q rfl)
  | str j=>obtain ⟨t',rfl⟩:=ry; exact PySem.EqNone.eq_none_str (fin_bl I q rfl)
  | _=>exact absurd (show false=true from hs) Bool.false_ne_true
 | bl i =>
  cases rx
  cases y with
  | non=>cases ry; exact PySem.EqNone.eq_bool_none (fin_bl I q rfl)
  | bl j=>cases ry; exact eq_bool (fin_bl I q dec_bl)
  | str j=>obtain ⟨t',rfl⟩:=ry; exact PySem.EqMixed.eq_bool_str (fin_bl I q rfl)
  | _=>exact absurd (show false=true from hs) Bool.false_ne_true
 | int i =>
  obtain ⟨t,rfl⟩:=rx
  cases y with
  | non=>cases ry; exact PySem.EqNone.eq_int_none (fin_bl I q rfl)
  | int j=>obtain ⟨t',rfl⟩:=ry; exact eq_int (fin_bl I q dec_int)
  | str j=>obtain ⟨t',rfl⟩:=ry; exact PySem.EqMixed.eq_int_str (fin_bl I q rfl)
  | _=>exact absurd (show false=true from hs) Bool.false_ne_true
 | str i =>
  obtain ⟨t,rfl⟩:=rx
  cases y with
  | non=>cases ry; exact PySem.EqNone.eq_str_none (fin_bl I q rfl)
  | bl j=>cases ry; exact PySem.EqMixed.eq_str_bool (fin_bl I q rfl)
  | int j=>obtain ⟨t',rfl⟩:=ry; exact PySem.EqMixed.eq_str_int (fin_bl I q rfl)
  | str j=>obtain ⟨t',rfl⟩:=ry; exact eq_str (fin_bl I q dec_str)
  | _=>exact absurd (show false=true from hs) Bool.false_ne_true
 | byt i =>
  obtain ⟨t,rfl⟩:=rx
  cases y with
  | byt j=>obtain ⟨t',rfl⟩:=ry; exact PySem.W.eq_bytes (fin_bl I q dec_byt)
  | _=>exact absurd (show false=true from hs) Bool.false_ne_true
 | _=>cases y <;> exact absurd (show false=true from hs) Bool.false_ne_true
theorem op_ne:OpR X (compareOp .NotEq) rNe:=by
 intro pins s σ H x y v u Q I rx ry h
 obtain ⟨hs,q⟩:=h
 cases x with
 | non =>
  cases rx
  cases y with
  | non=>cases ry; exact PySem.EqNone.ne_none_none (fin_bl I q rfl)
  | bl j=>cases ry; exact PySem.EqNone.ne_none_bool (fin_bl I q rfl)
  | int j=>obtain ⟨t',rfl⟩:=ry; exact PySem.EqNone.ne_none_int (fin_bl I q rfl)
  | str j=>obtain ⟨t',rfl⟩:=ry; exact PySem.EqNone.ne_none_str (fin_bl I q rfl)
  | _=>exact absurd (show false=true from hs) Bool.false_ne_true
 | bl i =>
  cases rx
  cases y with
  | non=>cases ry; exact PySem.EqNone.ne_bool_none (fin_bl I q rfl)
  | bl j=>cases ry; exact ne_bool (fin_bl I q (congrArg not dec_bl))
  | str j=>obtain ⟨t',rfl⟩:=ry; exact PySem.EqMixed.ne_bool_str (fin_bl I q rfl)
  | _=>exact absurd (show false=true from hs) Bool.false_ne_true
 | int i =>
  obtain ⟨t,rfl⟩:=rx
  cases y with
  | non=>cases ry; exact PySem.EqNone.ne_int_none (fin_bl I q rfl)
  | int j=>obtain ⟨t',rfl⟩:=ry; exact ne_int (fin_bl I q (congrArg not dec_int))
  | str j=>obtain ⟨t',rfl⟩:=ry; exact PySem.EqMixed.ne_int_str (fin_bl I q rfl)
  | _=>exact absurd (show false=true from hs) Bool.false_ne_true
 | str i =>
  obtain ⟨t,rfl⟩:=rx
  cases y with
  | non=>cases ry; exact PySem.EqNone.ne_str_none (fin_bl I q rfl)
  | bl j=>cases ry; exact PySem.EqMixed.ne_str_bool (fin_bl I q rfl)
  | int j=>obtain ⟨t',rfl⟩:=ry; exact PySem.EqMixed.ne_str_int (fin_bl I q rfl)
  | str j=>obtain ⟨t',rfl⟩:=ry; exact ne_str (fin_bl I q (congrArg not dec_str))
  | _=>exact absurd (show false=true from hs) Bool.false_ne_true
 | byt i =>
  obtain ⟨t,rfl⟩:=rx
  cases y with
  | byt j=>obtain ⟨t',rfl⟩:=ry; exact PySem.W.ne_bytes (fin_bl I q (congrArg not dec_byt))
  | _=>exact absurd (show false=true from hs) Bool.false_ne_true
 | _=>cases y <;> exact absurd (show false=true from hs) Bool.false_ne_true
theorem op_lt:OpR X (compareOp .Lt) (rI0 fun i j=>.bl (decide (i < j))):=opB0 fun _ _ _ _ _ _ _ q=>lt_int q
theorem op_le:OpR X (compareOp .LtE) (rI0 fun i j=>.bl (decide (i≤j))):=opB0 fun _ _ _ _ _ _ _ q=>le_int q
theorem op_gt:OpR X (compareOp .Gt) (rI0 fun i j=>.bl (decide (j < i))):=opB0 fun _ _ _ _ _ _ _ q=>gt_int q
theorem op_ge:OpR X (compareOp .GtE) (rI0 fun i j=>.bl (decide (j≤i))):=opB0 fun _ _ _ _ _ _ _ q=>ge_int q
theorem op_in_str:OpR X (compareOp .In) (fun x y H Q=>Ex_2_3 (fun i j=>x=.str i) (fun i j=>y=.str j) (fun i j=>Q (.bl (!(Builtin.Str.occurrences j i 0 j.length 1).isEmpty)) H)):=by
 intro pins s σ H x y v u Q I rx ry h
 obtain ⟨i,j,rfl,rfl,q⟩:=h
 obtain ⟨t,rfl⟩:=rx
 obtain ⟨t',rfl⟩:=ry
 exact in_str (fin_bl I q rfl)
theorem op_isN:OpR X (compareOp .Is) (fun x y H Q=>y=.non∧Q (.bl (decide (x=.non))) H):=by
 intro pins s σ H x y v u Q I rx ry h
 obtain ⟨rfl,q⟩:=h
 cases ry
 refine is_none_gen (fin_bl I q ?_)
 cases x <;> first
  | (cases rx; rfl)
  | (obtain ⟨t,rfl⟩:=rx; rfl)
theorem OpR.or {f:Value→Value→Sem Value} {r r':R2} (h:OpR X f r) (h':OpR X f r'):OpR X f (fun x y H Q=>r x y H Q∨r' x y H Q):=by
 intro pins s σ H x y v u Q I rx ry q
 rcases q with q | q
 ·exact h pins s σ H x y v u Q I rx ry q
 ·exact h' pins s σ H x y v u Q I rx ry q
theorem nomark (b:Expr) {op:CmpOp} (h:op≠.In:=by decide) (h2:op≠.NotIn:=by decide):behindInMarks op b=false:=by
 have e1:(op == CmpOp.In)=false:=by cases op <;> first | rfl | exact absurd rfl h
 have e2:(op == CmpOp.NotIn)=false:=by cases op <;> first | rfl | exact absurd rfl h2
 cases b <;> simp [behindInMarks,e1,e2]
theorem pe_cmpR {op:CmpOp} {r:R2} (ho:OpR X (compareOp op) r) (ha:PE X a ta) (hb:PE X b tb) (hm:behindInMarks op b=false):PE X (.Compare a [op] [b] pos) (tOp r ta tb):=by
 intro pins s σ H Q I h
 exact wpAny_Compare1 (binT ha hb I h fun v u s2 x y H2 I2 rx ry q=>ho pins s2 σ H2 x y v u Q I2 rx ry q) hm
noncomputable def tTest (t:TE):TT:=fun σ H Q=>t σ H fun x H'=>Ex_1_2 (fun k=>x=.bl k) (fun k=>Q k H')
theorem pt_cmpR {op:CmpOp} {r:R2} (ho:OpR X (compareOp op) r) (ha:PE X a ta) (hb:PE X b tb) (hm:behindInMarks op b=false):PT X (.Compare a [op] [b] pos) (tTest (tOp r ta tb)):=by
 intro pins s σ H Q I h
 refine wpAny_isTrue_Compare1 (thnE (ha pins s σ H _ I h) fun v s1 x H1 I1 r1 q1=>thnE (hb pins s1 σ H1 _ I1 q1) fun u s2 y H2 I2 r2 q2 =>
  thn (ho pins s2 σ H2 x y v u _ I2 r1 r2 q2) fun c s3 ⟨z,H3,I3,r3,k,e,q3⟩=>?_) hm
 subst e
 cases r3
 exact wpAny_truthy_bool ⟨H3,I3,q3⟩
noncomputable def tChain (r r':R2) (ta tb tc:TE):TE:=fun σ H Q=>ta σ H fun x H1=>tb σ H1 fun y H2=>r x y H2 fun z H3=>∃ k,z=.bl k ∧
 (if k=true then tc σ H3 fun w' H4=>r' y w' H4 Q else Q (.bl false) H3)
theorem pe_chain {op op':CmpOp} {r r':R2} (ho:OpR X (compareOp op) r) (ho':OpR X (compareOp op') r') (ha:PE X a ta) (hb:PE X b tb) (hc:PE X c tc)
  (hm:lastMarks [op,op'] [b,c]=false:=by with_unfolding_all rfl):PE X (.Compare a [op,op'] [b,c] pos) (tChain r r' ta tb tc):=by
 intro pins s σ H Q I h
 refine Compare_chain (thnE (ha pins s σ H _ I h) fun v s1 x H1 I1 r1 q1=>chain_link (thnE (hb pins s1 σ H1 _ I1 q1) fun u s2 y H2 I2 r2 q2 =>
  thn (ho pins s2 σ H2 x y v u _ I2 r1 r2 q2) fun d s3 ⟨z,H3,I3,r3,k,e,q3⟩=>?_)) hm
 subst e
 cases r3
 refine wpAny_truthy_bool ?_
 cases k with
 | false=>exact ite_ff ⟨.bl false,H3,I3,rfl,q3⟩
 | true=>exact ite_tt (chain_last (thnE (hc pins s3 σ H3 _ I3 q3) fun w' s4 z' H4 I4 r4 q4=>ho' pins s4 σ H4 y z' u w' Q I4 r2 r4 q4))
theorem line63:(sizeLine:Nat) < 2 ^ 63:=by rw [sizeLine_eq]; decide
theorem op_add_str:OpR X (binaryOp .Add) (fun x y H Q=>Ex_2_4 (fun i j=>x=.str i) (fun i j=>y=.str j) (fun i j=>i.length + j.length≤sizeLine) (fun i j=>Q (.str (i ++ j)) H)):=by
 intro pins s σ H x y v u Q I rx ry h
 obtain ⟨i,j,rfl,rfl,hz,q⟩:=h
 obtain ⟨t,rfl⟩:=rx
 obtain ⟨t',rfl⟩:=ry
 exact add_str (fun t' tk=>⟨.str (i ++ j),H,I.tok _,⟨_,rfl⟩,q⟩) hz
theorem vals1 {x:V} {us:List Value} (r:Vals [x] us):∃ u,us=[u]∧RelV x u:=by
 cases r with
 | cons r1 r2=>cases r2; exact ⟨_,rfl,r1⟩
theorem vals2 {x y:V} {us:List Value} (r:Vals [x,y] us):Ex_2_3 (fun u w'=>us=[u,w']) (fun u w'=>RelV x u) (fun u w'=>RelV y w'):=by
 cases r with
 | cons r1 r2 =>
  cases r2 with
  | cons r3 r4=>cases r4; exact ⟨_,_,rfl,r1,r3⟩
theorem call_min2 (hc:X.calm=true):CallR X (.builtin "min") (fun xs H Q=>Ex_2_2 (fun i j=>xs=[.int i,.int j]) (fun i j=>Q (.int (if j < i then j else i)) H)):=by
 intro pins s σ H xs us Q I r h
 obtain ⟨i,j,rfl,q⟩:=h
 obtain ⟨u,w',rfl,⟨t,rfl⟩,⟨t',rfl⟩⟩:=vals2 r
 refine min_two_ints (I.ok.hd hc) fun h' tk k=>⟨_,H,I.kept k,?_,q⟩
 by_cases hj:j < i
 ·rw [if_pos hj,if_pos hj]; exact ⟨_,rfl⟩
 ·rw [if_neg hj,if_neg hj]; exact ⟨_,rfl⟩
theorem call_int1:CallR X (.type "int") (fun xs H Q=>(∃ i,xs=[.int i]∧Q (.int i) H)∨∃ k,xs=[.bl k]∧Q (.int (if k then 1 else 0)) H):=by
 intro pins s σ H xs us Q I r h
 rcases h with ⟨i,rfl,q⟩ | ⟨k,rfl,q⟩
 ·obtain ⟨u,rfl,t,rfl⟩:=vals1 r
  exact call_int_int ⟨.int i,H,I,⟨_,rfl⟩,q⟩
 ·obtain ⟨u,rfl,r1⟩:=vals1 r
  cases r1
  exact call_int_bool ⟨.int (if k then 1 else 0),H,I.tok _,⟨_,rfl⟩,q⟩
theorem call_str_int:CallR X (.type "str") (fun xs H Q=>∃ i,xs=[.int i]∧i.natAbs.log2 < 1920∧Q (.str (toString i)) H):=by
 intro pins s σ H xs us Q I r h
 obtain ⟨i,rfl,hz,q⟩:=h
 obtain ⟨u,rfl,t,rfl⟩:=vals1 r
 exact PySem.P.str_of_int hz ⟨.str _,H,I.tok _,⟨_,rfl⟩,q⟩
end
end L2
namespace L2
open PySem PySem.Spec PyProof.Rows
structure ObjM (h:Heap) (x dx C:Addr) (mA:Str→Option Value):Prop where
 obj:h.get? x=some (PySem.W.instObj C dx)
 ns:h.Ns1 dx mA
 ne:dx≠x
theorem lookIn_ns {h:Heap} {dx:Addr} {mA:Str→Option Value} (n:h.Ns1 dx mA):∃ od,h.get? dx=some od∧∀ name,PySem.W.lookIn name od=some (mA name):=by
 obtain ⟨o,es,ep,ho,hd,hk,_,hm⟩:=n
 refine ⟨o,ho,fun name=>?_⟩
 have e:=hm name
 unfold nsFind findBy at e
 rw [← Array.find?_toList] at e
 unfold PySem.W.lookIn
 rw [hd]
 dsimp only
 split
 ·rename_i y q
  rw [q] at e
  exact congrArg some e
 ·rename_i q
  rw [q] at e
  have a:es.toList.any (·.refKey)=false:=by
   rw [List.any_eq_false]
   intro y hy
   obtain ⟨z,t,hkey⟩:=hk y (Array.mem_toList_iff.mp hy)
   simp [DictEntry.refKey,hkey]
  have a':¬ es.toList.any (·.refKey)=true:=by rw [a]; exact Bool.false_ne_true
  rw [if_neg a']
  exact congrArg some e
section
variable {prog:Program} {w:World} {A:Around} {E:Value→Shared→Prop} {s:Shared} {K:PySem.W.Frag} {x dx C f:Addr} {mA:Str→Option Value} {name:Str} {v:Value}
end
theorem RelO.some_of {v:V} {o:Option Value} (r:RelO (some v) o):∃ u,o=some u∧RelV v u:=by
 cases o with
 | none=>exact (show False from r).elim
 | some u=>exact ⟨u,rfl,r⟩
theorem RelO.none_of {o:Option Value} (r:RelO none o):o=none:=by
 cases o with
 | none=>rfl
 | some u=>exact (show False from r).elim
theorem handed_of {v:V} {u:Value} (r:RelV v u):PySem.W.handedIn u=true:=by
 cases v with
 | non=>cases (show u=Value.none from r); rfl
 | bl b=>cases (show u=Value.bool b from r); rfl
 | int i=>obtain ⟨t,e⟩:=(show ∃ t,u=Value.int i t from r); cases e; rfl
 | str x=>obtain ⟨t,e⟩:=(show ∃ t,u=Value.str x t from r); cases e; rfl
 | byt b=>obtain ⟨t,e⟩:=(show ∃ t,u=Value.bytes b t from r); cases e; rfl
 | flt b=>obtain ⟨t,e⟩:=(show ∃ t,u=Value.float b t from r); cases e; rfl
 | ref a=>cases (show u=Value.ref a from r); rfl
 | ty n=>cases (show u=Value.type n from r); rfl
section
variable {P:Program} {w:World} {H H':Hp} {h h':Heap} {a C dx:Addr} {fs fs':List (Str×V)}
end
structure Cls (K:PySem.W.Frag) (C:Addr):Prop where
 pg:PySem.W.plainGet K C Str.empty=true
 hd:PySem.W.hasDictIn K C=true
 po:PySem.W.plainOver K C=true
 sa:PySem.W.findIn K (.ref C) "__setattr__"=some (some (.builtin "object.__setattr__"))
theorem Cls.get {K:PySem.W.Frag} {C:Addr} (c:Cls K C) (f:Str):PySem.W.plainGet K C f=true:=c.pg
noncomputable def NoAttr (K:PySem.W.Frag) (C:Addr) (f:Str):Prop:=PySem.W.findIn K (.ref C) f=some none
structure Con (K:PySem.W.Frag) (C:Addr) (f:Str) (v:V) (u:Value):Prop where
 at_:PySem.W.findIn K (.ref C) f=some (some u)
 rel:RelV v u
 get:PySem.W.specialIn K u "__get__"=some none
 cp:PySem.W.copiedNames.contains f=false
structure Meth (K:PySem.W.Frag) (C:Addr) (m:Str) (f:Addr):Prop where
 at_:PySem.W.findIn K (.ref C) m=some (some (.ref f))
 fn:PySem.W.isFn K (.ref f)=true
 kp:PySem.W.keepIn K (.ref f)=true
section
variable {X:Cx} {pins:List (Addr×Obj)} {σ:St} {H:Hp} {s:Shared} {a C dx:Addr} {fs:List (Str×V)} {f:Str} {v:V} {A:Around} {E:Value→Shared→Prop}
theorem Inv.made (I:Inv X pins σ H s):Inv X pins σ (upd (upd H s.heap.objs.size (.own (s.heap.objs.size + 1))) (s.heap.objs.size + 1) (.ins C s.heap.objs.size []))
  { s with heap:=(s.heap.push PySem.W.emptyDict).push (PySem.W.instObj C s.heap.objs.size) }:=by
 have e1:(s.heap.push PySem.W.emptyDict).get? s.heap.objs.size=some PySem.W.emptyDict:=Heap.get?_push_size s.heap rfl
 have e2:((s.heap.push PySem.W.emptyDict).push (PySem.W.instObj C s.heap.objs.size)).get? (s.heap.objs.size + 1)=some (PySem.W.instObj C s.heap.objs.size):=by
  have:=Heap.get?_push_size (s.heap.push PySem.W.emptyDict) (o:=PySem.W.instObj C s.heap.objs.size) rfl
  rwa [Heap.size_push] at this
 have e3:(s.heap.push PySem.W.emptyDict).Ns s.heap.objs.size (fun _=>none):=⟨PySem.W.emptyDict,#[],_,e1,rfl,(fun e he=>absurd he (by simp)),fun _=>rfl⟩
 have I1:=I.laid (a:=s.heap.objs.size) (o:=.own (s.heap.objs.size + 1)) (h':=s.heap.push PySem.W.emptyDict) (t':=s.toks) (fun b u q=>Heap.get?_push_of_some _ q) (Nat.le_refl _) ⟨_,e1⟩
 refine I1.laid (a:=s.heap.objs.size + 1) (o:=.ins C s.heap.objs.size []) (t':=s.toks) (fun b u q=>Heap.get?_push_of_some _ q) (Nat.le_of_eq (Heap.size_push _ _)) ?_
 have ne:s.heap.objs.size≠s.heap.objs.size + 1:=Nat.ne_of_lt (Nat.lt_succ_self _)
 refine ⟨by rw [upd_ne ne,upd_same],Nat.zero_le _,ne,e2,fun _=>none,(Heap.Ns1.of_empty e3).at fun o q=>Heap.get?_push_of_some _ q,fun _=>True.intro,fun y hy=>absurd rfl hy⟩
theorem attr_of {prog:Program} {w:World} {env:Env} {e:Expr} {f:Str} {pos:Pos} {s:Shared} {Q:Value→Shared→Prop} (hb:attributeBase e f env (eval e env)=eval e env)
  (h:wpAny (model prog w) A (eval e env) (fun o s₁=>wpAny (model prog w) A (getAttr o f true) Q E s₁) E s):wpAny (model prog w) A (eval (.Attribute e f pos) env) Q E s :=
 Attribute_any_ h (by rw [arm_eval_Attribute,hb])
end
section
variable {X:Cx} {o e value:Expr} {f:Str} {pos pos' tpos:Pos} {ta tv:TE}
end
section
variable {X:Cx} {pins:List (Addr×Obj)} {σ:St} {H:Hp} {s:Shared} {A:Around} {E:Value→Shared→Prop} {Q:Value→Shared→Prop} {c:Value} {b:Bool}
inductive TyOf (K:PySem.W.Frag) (H:Hp):V→Value→Prop where
 | non:TyOf K H .non (.type "NoneType")
 | bl (x:Bool):TyOf K H (.bl x) (.type "bool")
 | int (i:Int):TyOf K H (.int i) (.type "int")
 | str (x:Str):TyOf K H (.str x) (.type "str")
 | flt (x:UInt64):TyOf K H (.flt x) (.type "float")
 | lst {a:Addr} {xs:List V} (e:H a=some (.lst xs)):TyOf K H (.ref a) (.type "list")
 | frz {a:Addr} {o:Obj} {xs:List V} (e:H a=some (.frz o (.lst xs))):TyOf K H (.ref a) (.type "list")
 | tup {a:Addr} {xs:List V} (e:H a=some (.tup xs)):TyOf K H (.ref a) (.type "tuple")
 | dK {a:Addr} {kvs:List (Key×V)} (e:H a=some (.dK kvs)):TyOf K H (.ref a) (.type "dict")
 | dT {a:Addr} {kvs:List (List Key×V)} (e:H a=some (.dT kvs)):TyOf K H (.ref a) (.type "dict")
 | ins {a C dx:Addr} {fs:List (Str×V)} (e:H a=some (.ins C dx fs)) (cl:Cls K C) (ha:PySem.W.findIn K (.ref C) "__class__"=some (some (.builtin "object.__class__")))
   (hn:PySem.W.specialIn K (.builtin "object.__class__") "__get__"=some (some (.builtin "getset_descriptor.__get__"))) (htk:PySem.W.takesIn K (.builtin "object.__class__")=some true)
   (hm:PySem.W.mroIn K C (.type "object")=some true):TyOf K H (.ref a) (.ref C)
end
end L2
namespace L2
open PySem PySem.Spec PyProof.Rows
structure Room (k:Nat) (A:Around):Prop where
 hd:A.handled=none
 dp:A.depth + 3 * k + 5 < recursionLimit
 un:A.units + 16 * k + 200 < cLine
theorem Room.mono {j k:Nat} {A:Around} (r:Room k A) (h:j≤k):Room j A:=⟨r.hd,by have:=r.dp; lia,by have:=r.un; lia⟩
theorem Room.deeper {k:Nat} {A:Around} (r:Room (k + 1) A) (env:Env):Room k (A.deeper env) :=
 ⟨r.hd,by have:=r.dp; show A.depth + 1 + 3 * k + 5 < _; lia,by have:=r.un; show A.units + 3 + 16 * k + 200 < _; lia⟩
theorem Room.in1 {k:Nat} {A:Around} (r:Room (k + 1) A):Room k A.in1 :=
 ⟨r.hd,by have:=r.dp; show A.depth + 3 * k + 5 < _; lia,by have:=r.un; show A.units + 1 + 16 * k + 200 < _; lia⟩
theorem make_depth {A:Around} {C:Addr} {us:List Value} {kw:List (Str×Value)}:(A.under (.builtin "type.__call__" ⟨.ref C :: us,kw⟩)).depth=A.depth + 1:=by
 first | rfl | simp [Around.under,Code.weight,Code.isCreation,Code.isGuard,Code.isCaller,Code.frames,Code.isFrame,guardIds]
theorem make_units {A:Around} {C:Addr} {us:List Value} {kw:List (Str×Value)}:(A.under (.builtin "type.__call__" ⟨.ref C :: us,kw⟩)).units=A.units + 1:=by
 first | rfl | simp [Around.under,Code.cUnits,Code.frames,Code.isFrame]
theorem Room.make {k:Nat} {A:Around} (r:Room (k + 1) A) (C:Addr) (us:List Value) (kw:List (Str×Value)):Room k (A.under (.builtin "type.__call__" ⟨.ref C :: us,kw⟩)) :=
 ⟨r.hd,by have:=r.dp; rw [make_depth]; lia,by have:=r.un; rw [make_units]; lia⟩
theorem Room.depth {k:Nat} {A:Around} (r:Room k A):A.depth < recursionLimit:=by have:=r.dp; lia
theorem Room.units {k:Nat} {A:Around} (r:Room k A):A.units + 64 < cLine:=by have:=r.un; lia
noncomputable def tNil:TA:=fun _ H Q=>Q [] H
noncomputable def tCons (ta:TE) (tr:TA):TA:=fun σ H Q=>ta σ H fun x H1=>tr σ H1 fun xs H2=>Q (x :: xs) H2
section
variable {X:Cx} {e:Expr} {es:List Expr} {te:TE} {t:TA} {pos:Pos}
theorem pa_nil:PA X [] tNil:=fun _ _ _ _ H Q I h=>Calls.spliced_nil ⟨[],H,I,.nil,h⟩
theorem pa_cons (ha:PE X e te) (hr:PA X es t) (hs:starEach (e :: es) X.env=(false,eval e X.env) :: starEach es X.env:=by rfl):PA X (e :: es) (tCons te t):=by
 intro pos pins s σ H Q I h
 rw [hs]
 show wpAny _ _ (spliced ((false,eval e X.env) :: backTo pos (starEach es X.env))) _ _ s
 refine Calls.spliced_cons (thnE (ha pins s σ H _ I h) fun u s1 x H1 I1 r1 q1=>?_)
 exact thnA (hr pos pins s1 σ H1 _ I1 q1) fun us s2 xs H2 I2 r2 q2=>⟨x :: xs,H2,I2,.cons r1 r2,q2⟩
noncomputable def tTup (t:TA):TE:=fun σ H Q=>t σ H fun xs H1=>xs.length≤sizeLine∧∀ p,H1 p=none→Q (.ref p) (upd H1 p (.tup xs))
noncomputable def tLst (t:TA):TE:=fun σ H Q=>t σ H fun xs H1=>xs.length≤sizeLine∧∀ p,H1 p=none→Q (.ref p) (upd H1 p (.lst xs))
theorem pe_tup {x1} (h:PA X es t):PE X (.Tuple es x1 pos) (tTup t):=by
 intro pins s σ H Q I hq
 refine wpAny_Tuple_spliced (thn (h pos pins s σ H _ I hq) fun us s1 ⟨xs,H1,I1,r,z,q⟩=>⟨by rw [← r.length]; exact z,?_⟩)
 have hf:H1 s1.heap.objs.size=none:=I1.hok.fresh (Nat.le_refl _)
 refine ⟨.ref s1.heap.objs.size,upd H1 s1.heap.objs.size (.tup xs),I1.laid (t':=s1.toks) (fun b u e=>Heap.get?_push_of_some _ e) (Nat.le_refl _) ?_,rfl,q _ hf⟩
 exact ⟨z,us,r,⟨_,Heap.get?_push_size _ rfl,rfl,_,rfl⟩⟩
theorem pe_lst (h:PA X es t):PE X (.List es pos) (tLst t):=by
 intro pins s σ H Q I hq
 refine wpAny_List_spliced (thn (h pos pins s σ H _ I hq) fun us s1 ⟨xs,H1,I1,r,z,q⟩=>⟨by rw [← r.length]; exact z,?_⟩)
 have hf:H1 s1.heap.objs.size=none:=I1.hok.fresh (Nat.le_refl _)
 refine ⟨.ref s1.heap.objs.size,upd H1 s1.heap.objs.size (.lst xs),I1.laid (t':=s1.toks) (fun b u e=>Heap.get?_push_of_some _ e) (Nat.le_refl _) ?_,rfl,q _ hf⟩
 exact ⟨z,us,0,r,Heap.get?_push_size _ rfl⟩
end
noncomputable abbrev Sp:=List V→Hp→VK→XK→Prop
noncomputable abbrev CXT:=List Env→Hp→Shared→XK→Value→Shared→Prop
structure Env0 (P:Program) (w:World) (K:PySem.W.Frag) (mg:Str→Option Value) (base:Heap) (A:Around) (outer:List Env) (s:Shared) (H:Hp):Prop where
 frames:A.frames=some outer
 mod:Mod K mg base
 bs:∀ b o,base.get? b=some o→s.heap.get? b=some o∧H b=none
 bsz:base.objs.size≤s.heap.objs.size
 funs:s.heap.FunFrames base outer
 frf:∀ b∈frs outer,H b=none
 hok:HOk P w H s.heap
 bare:AllBare s.gens
noncomputable def CE (outer:List Env) (P:Program) (w:World) (H:Hp) (s:Shared) (Q:VK) (u:Value) (s':Shared):Prop :=
 Ex_2_6 (fun v H'=>s'.os=s.os) (fun v H'=>AllBare s'.gens) (fun v H'=>Un (frs outer) [] H H' s.heap s'.heap) (fun v H'=>HOk P w H' s'.heap) (fun v H'=>RelV v u) (fun v H'=>Q v H')
noncomputable def CR (CX:CXT) (outer:List Env) (P:Program) (w:World) (H:Hp) (s:Shared) (Q:VK) (E:XK) (r:Result) (s':Shared):Prop :=
 match r with
 | .ok (.ret u)=>CE outer P w H s Q u s'
 | .ok _=>False
 | .error e=>CX outer H s E e s'
structure FnOk (P:Program) (w:World) (K:PySem.W.Frag) (mg:Str→Option Value) (base:Heap) (CX:CXT) (k:Nat) (f:Addr) (fd:FuncData) (ps:List Str) (sp:Sp):Prop where
 len:∀ vs H Q E,sp vs H Q E→vs.length=ps.length
 run:∀ (A:Around) (outer:List Env) (s:Shared) (H:Hp) (args:Args) (us:List Value) (vs:List V) (Q:VK) (E:XK),Room k A→Env0 P w K mg base A outer s H→BindsTo s fd args (ps.zip us)→Vals vs us→sp vs H Q E →
  codeAny (model P w) A (.call (.ref f) args) (CR CX outer P w H s Q E) s
theorem FnOk.mono {P:Program} {w:World} {K:PySem.W.Frag} {mg:Str→Option Value} {base:Heap} {CX:CXT} {j k:Nat} {f:Addr} {fd:FuncData} {ps:List Str} {sp:Sp} (F:FnOk P w K mg base CX j f fd ps sp) (h:j≤k) :
  FnOk P w K mg base CX k f fd ps sp:=⟨F.len,fun A outer s H args us vs Q E hr=>F.run A outer s H args us vs Q E (hr.mono h)⟩
theorem Env0.make {P:Program} {w:World} {K:PySem.W.Frag} {mg:Str→Option Value} {base:Heap} {A:Around} {outer:List Env} {s:Shared} {H:Hp} (e:Env0 P w K mg base A outer s H) (C:Addr) (us:List Value) (kw:List (Str×Value)) :
  Env0 P w K mg base (A.under (.builtin "type.__call__" ⟨.ref C :: us,kw⟩)) outer s H:=⟨by first | exact e.frames | (simpa [Around.under,Code.envs,Code.isFrame,pushEnvs] using e.frames),e.mod,e.bs,e.bsz,e.funs,e.frf,e.hok,e.bare⟩
theorem Env0.in1 {P:Program} {w:World} {K:PySem.W.Frag} {mg:Str→Option Value} {base:Heap} {A:Around} {outer:List Env} {s:Shared} {H:Hp} (e:Env0 P w K mg base A outer s H) :
  Env0 P w K mg base A.in1 outer s H:=⟨e.frames,e.mod,e.bs,e.bsz,e.funs,e.frf,e.hok,e.bare⟩
section
variable {X:Cx} {pins:List (Addr×Obj)} {σ:St} {H:Hp} {s s':Shared}
theorem Inv.env0 (I:Inv X pins σ H s):Env0 X.prog X.w X.K X.mg X.base X.A X.stack s H :=
 ⟨I.ok.frames,I.ok.mod,I.bs,Nat.le_trans I.ok.bsz I.sz,I.stack,I.stkFree,I.hok,I.bare⟩
theorem Inv.after {Q:VK} {u:Value} (I:Inv X pins σ H s) (h:CE X.stack X.prog X.w H s Q u s'):EP X pins σ Q u s':=by
 obtain ⟨v,H',os,bare,un,hok,r,q⟩:=h
 obtain ⟨hh,g,d,t,os'⟩:=s'
 obtain rfl:os'=s.os:=os
 exact ⟨v,H',I.call (h':=hh) (g':=g) (d':=d) (t':=t) (ch:=[]) un hok bare (fun b z=>absurd z (by simp)),r,q⟩
end
noncomputable def tCall (sp:Sp) (dvs:List V) (E:XK) (t:TA):TE:=fun σ H Q=>t σ H fun vs H1=>sp (vs ++ dvs) H1 Q E
noncomputable def Binds (K:PySem.W.Frag) (fd:FuncData) (ps:List Str) (ds:List Value):Prop :=
 ∀ (s:Shared) (us:List Value),K.In s.heap→(us ++ ds).length=ps.length→BindsTo s fd ⟨us,[]⟩ (ps.zip (us ++ ds))
theorem Binds.all {K:PySem.W.Frag} {fd:FuncData} {ps:List Str} (h:∀ us:List Value,us.length=ps.length→bindArgs fd ⟨us,[]⟩=pure (ps.zip us)):Binds K fd ps []:=fun s us _ hl=>by
 rw [List.append_nil] at hl ⊢
 exact .of_eq (h us hl)
noncomputable def Passes (CX:CXT) (X:Cx) (E:XK):Prop:=∀ (pins:List (Addr×Obj)) (σ:St) (H:Hp) (s:Shared) (e:Value) (s':Shared),Inv X pins σ H s→CX X.stack H s E e s'→X.xe e s'
section
variable {X:Cx} {CX:CXT} {k:Nat} {f C:Addr} {fd:FuncData} {ps:List Str} {sp:Sp} {dvs:List V} {ds:List Value} {E:XK} {x m:Str} {p pos apos:Pos} {e o:Expr} {es:List Expr} {ta:TE} {t:TA}
theorem run_fn {pins:List (Addr×Obj)} {σ:St} {H:Hp} {s:Shared} {Q:VK} {us:List Value} {vs:List V} (F:FnOk X.prog X.w X.K X.mg X.base CX k f fd ps sp) (hr:Room k X.A) (hb:Binds X.K fd ps ds) (hd:Vals dvs ds) (hx:Passes CX X E)
  (I:Inv X pins σ H s) (r:Vals vs us) (h:sp (vs ++ dvs) H Q E):wpAny (model X.prog X.w) X.A (call (.ref f) us) (EP X pins σ Q) X.xe s:=by
 have r2:Vals (vs ++ dvs) (us ++ ds):=r.append hd
 have hl:(us ++ ds).length=ps.length:=by rw [← r2.length]; exact F.len _ _ _ _ h
 refine wpAny_call (codeAny_mono (F.run X.A X.stack s H ⟨us,[]⟩ (us ++ ds) (vs ++ dvs) Q E hr I.env0 (hb s us I.kIn hl) r2 h) fun r s' hq=>?_)
 cases r with
 | error e=>exact hx pins σ H s e s' I hq
 | ok fl =>
  cases fl with
  | ret u=>exact I.after hq
  | next=>exact False.elim hq
  | brk=>exact False.elim hq
  | cont=>exact False.elim hq
theorem pe_call (F:FnOk X.prog X.w X.K X.mg X.base CX k f fd ps sp) (hr:Room k X.A) (hg:Gl X x) (hm:X.mg x=some (.ref f)) (hk:PySem.W.keepIn X.K (.ref f)=true) (hb:Binds X.K fd ps ds) (hd:Vals dvs ds) (hx:Passes CX X E)
  (ha:PA X (e :: es) t) (hdb:(x == ("__debug__":Str))=false:=by decide) (he:starEach (e :: es) X.env=(false,eval e X.env) :: starEach es X.env:=by rfl) (hpl:(backTo pos (starEach es X.env)).any (·.1)=false:=by rfl) :
  PE X (.Call (.Name x p) (e :: es) [] pos) (tCall sp dvs E t):=by
 intro pins s σ H Q I h
 refine wpAny_Call_Name_kw (ld_glob I hg hm ?_ hdb)
 refine PySem.W.callWith_K (h₀:=X.base) I.ok.mod.kin hk (thnA (ha pos pins s σ H _ I h) fun us s1 vs H1 I1 r q=>⟨I1.kIn,?_⟩) he hpl
 exact run_fn F hr hb hd hx I1 r q
structure Mk (K:PySem.W.Frag) (C f:Addr):Prop where
 makes:PySem.W.makesIn K C=true
 init:PySem.W.findIn K (.ref C) "__init__"=some (some (.ref f))
 fn:PySem.W.isFn K (.ref f)=true
 kp:PySem.W.keepIn K (.ref C)=true
end
section
variable {X:Cx} {CX:CXT} {k:Nat} {f C:Addr} {fd:FuncData} {ps ks:List Str} {sp:Sp} {E:XK} {x m:Str} {p pos apos kpos:Pos} {e o:Expr} {es:List Expr} {kws:List Keyword} {te ta:TE} {t tk:TA} {nm:Option Str}
structure KBinds (K:PySem.W.Frag) (fd:FuncData) (ps ks:List Str) (g:List Value→List Value→List Value) (gV:List V→List V→List V):Prop where
 to:∀ (s:Shared) (us ws:List Value),K.In s.heap→(g us ws).length=ps.length→BindsTo s fd ⟨us,ks.zip ws⟩ (ps.zip (g us ws))
 rel:∀ {vs:List V} {us:List Value} {zs:List V} {ws:List Value},Vals vs us→Vals zs ws→Vals (gV vs zs) (g us ws)
variable {g:List Value→List Value→List Value} {gV:List V→List V→List V}
end
structure FnScope (N P:List Str) (sc:Scope):Prop where
 kind:sc.kind=.function
 co:sc.isCoroutine=false
 gen:sc.isGenerator=false
 nd:N.Nodup
 pre:N.take P.length=P
 par:∀ x∈P,sc.names.lookup x=some .local∨sc.names.lookup x=some .cell
 nofree:∀ y∈sc.names,y.2≠.free
theorem bindL_out {kindOf:Str→Option NameKind} {x:Str}:∀ {binds:List (Str×Value)} {m:Str→Option Value},(∀ v,(x,v) ∉ binds)→bindL kindOf binds m x=m x
 | [],_,_=>rfl
 | (n,v) :: r,m,h=>by
  unfold bindL
  rw [bindL_out fun w hw=>h w (List.mem_cons_of_mem _ hw)]
  split
  ·have:x≠n:=by rintro rfl; exact h v List.mem_cons_self
   simp [this]
  ·rfl
theorem bindC_out {kindOf:Str→Option NameKind} {x:Str}:∀ {binds:List (Str×Value)} {m:Str→Option Value},(∀ v,(x,v) ∉ binds)→bindC kindOf binds m x=m x
 | [],_,_=>rfl
 | (n,v) :: r,m,h=>by
  unfold bindC
  rw [bindC_out fun w hw=>h w (List.mem_cons_of_mem _ hw)]
  split
  ·rfl
  ·have:x≠n:=by rintro rfl; exact h v List.mem_cons_self
   simp [this]
theorem bindL_get {kindOf:Str→Option NameKind} {x:Str} {v:Value}:∀ {P:List Str} {vs:List Value} {i:Nat} {m:Str→Option Value},P.Nodup→P[i]?=some x→vs[i]?=some v→kindOf x=some .local →
  bindL kindOf (P.zip vs) m x=some v
 | [],_,_,_,_,h,_,_=>by simp at h
 | _ :: _,[],_,_,_,_,h,_=>by simp at h
 | p :: P,w :: vs,0,m,nd,h1,h2,hk=>by
  simp at h1 h2; subst h1; subst h2
  show bindL kindOf ((p,w) :: P.zip vs) m p=_
  unfold bindL
  rw [bindL_out fun v hv=>(List.nodup_cons.mp nd).1 (List.of_mem_zip hv).1,if_pos hk]
  simp
 | p :: P,w :: vs,i + 1,m,nd,h1,h2,hk=>by
  show bindL kindOf ((p,w) :: P.zip vs) m x=_
  unfold bindL
  exact bindL_get (i:=i) (List.nodup_cons.mp nd).2 (by simpa using h1) (by simpa using h2) hk
theorem bindC_get {kindOf:Str→Option NameKind} {x:Str} {v:Value}:∀ {P:List Str} {vs:List Value} {i:Nat} {m:Str→Option Value},P.Nodup→P[i]?=some x→vs[i]?=some v→kindOf x≠some .local →
  bindC kindOf (P.zip vs) m x=some v
 | [],_,_,_,_,h,_,_=>by simp at h
 | _ :: _,[],_,_,_,_,h,_=>by simp at h
 | p :: P,w :: vs,0,m,nd,h1,h2,hk=>by
  simp at h1 h2; subst h1; subst h2
  show bindC kindOf ((p,w) :: P.zip vs) m p=_
  unfold bindC
  rw [bindC_out fun v hv=>(List.nodup_cons.mp nd).1 (List.of_mem_zip hv).1,if_neg hk]
  simp
 | p :: P,w :: vs,i + 1,m,nd,h1,h2,hk=>by
  show bindC kindOf ((p,w) :: P.zip vs) m x=_
  unfold bindC
  exact bindC_get (i:=i) (List.nodup_cons.mp nd).2 (by simpa using h1) (by simpa using h2) hk
noncomputable def start (N:List Str) (vs:List V):St:=vs.map some ++ List.replicate (N.length - vs.length) none
noncomputable def cxOf (CX:CXT) (P:Program) (w:World) (K:PySem.W.Frag) (mg:Str→Option Value) (base:Heap) (N:List Str) (qual:Str) (scope:Scope) (f:Addr) (cd:Value) (A:Around) (outer:List Env) (s:Shared) (H:Hp) (E:XK):Cx where
 prog:=P
 w:=w
 K:=K
 mg:=mg
 base:=base
 A:=A.deeper (envOfC qual scope s.heap.objs.size f cd)
 N:=N
 s₀:=s
 H₀:=H
 env:=envOfC qual scope s.heap.objs.size f cd
 outer:=outer
 stack:=envOfC qual scope s.heap.objs.size f cd :: outer
 ex:=[]
 calm:=true
 fn:=fun _=>true
 pn:=[]
 xe:=fun e s'=>wpAny (model P w) (A.deeper (envOfC qual scope s.heap.objs.size f cd)) («leaving» (envOfC qual scope s.heap.objs.size f cd) e) (fun _ s''=>CX outer H s E e s'') (fun e' s''=>CX outer H s E e' s'') s'
theorem cell_has {sc:Scope} {n:Nat} {x:Str} (h:sc.names.lookup x=some .cell):∃ c,(cellsFrom n sc.names []).lookup x=some c:=by
 have q:=PySem.W.cellsFrom_some sc.names n [] (.inl h)
 exact Option.isSome_iff_exists.mp q
theorem inv_start {CX:CXT} {P:Program} {w:World} {K:PySem.W.Frag} {mg:Str→Option Value} {base:Heap} {N ps:List Str} {qual:Str} {scope:Scope} {f:Addr} {cd:Value} {A:Around} {outer:List Env} {s s1:Shared} {H:Hp} {E:XK} {us:List Value} {vs:List V}
  (S:FnScope N ps scope) (hd:A.handled=none) (e0:Env0 P w K mg base A outer s H) (hl:vs.length=ps.length) (r:Vals vs us)
  (x:InCallC s s.heap.objs.size (bindL (envOfC qual scope s.heap.objs.size f cd).kindOf (ps.zip us) fun _=>none) (cellsFrom (s.heap.objs.size + 1) scope.names []) (bindC (envOfC qual scope s.heap.objs.size f cd).kindOf (ps.zip us) fun _=>none) s1) :
  Inv (cxOf CX P w K mg base N qual scope f cd A outer s H E) [] (start N vs) H s1:=by
 have hpl:ps.length≤N.length:=by have:=congrArg List.length S.pre; rw [List.length_take] at this; lia
 obtain ⟨h1,tk,rfl,hk⟩:=x.done
 have noA:∀ b:Addr,b ∉ (cxOf CX P w K mg base N qual scope f cd A outer s H E).ex:=fun b z=>absurd (show b∈([]:List Addr) from z) (by simp)
 refine ⟨⟨e0.mod,S.kind,rfl,rfl,Nat.le_refl _,fun y z c h1 h2=>?_,fun y hy=>?_,fun y c _ h=>?_,fun _=>hd,Around.frames_deeper e0.frames,.inr ⟨rfl,rfl⟩,fun b z=>absurd z (noA b),e0.bs,e0.bsz,fun b _ _=>noA b,fun b z=>absurd z (noA b),e0.funs,e0.frf⟩,
  rfl,e0.bare,Un.kept hk,⟨_,x.toInCall.ns,fun i y v h1 h2 h3=>?_⟩,fun y c h=>⟨_,x.cell y c h⟩,e0.hok.fresh (Nat.le_refl _),fun y c h=>?_,fun p hp=>absurd (show p∈([]:List (Addr×Obj)) from hp) (by simp),e0.hok.kept hk,?_⟩
 ·exact name_of_addr x.apart (PySem.mem_of_lookup h1) (PySem.mem_of_lookup h2)
 ·have hy:scope.names.lookup y=some .cell∨scope.names.lookup y=some .free:=hy
  rcases hy with hy | hy
  ·exact cell_has hy
  ·exact absurd rfl (S.nofree _ (PySem.mem_of_lookup hy))
 ·exact Nat.le_of_lt (x.above y c (PySem.mem_of_lookup h))
 ·have hi:i < vs.length:=by
   unfold start at h2
   by_cases hi:i < vs.length
   ·exact hi
   ·rw [List.getElem?_append_right (by simpa using hi)] at h2
    rw [List.getElem?_replicate] at h2
    split at h2 <;> cases h2
  have ha:vs[i]?=some v:=by
   unfold start at h2
   rw [List.getElem?_append_left (by simpa using hi),List.getElem?_map] at h2
   cases e:vs[i]? with
   | none=>rw [e] at h2; cases h2
   | some a=>rw [e] at h2; cases h2; rfl
  obtain ⟨u,hu,rv⟩:=r.get ha
  have hp:ps[i]?=some y:=by
   rw [← S.pre,List.getElem?_take_of_lt (by lia)]; exact h1
  have ndP:ps.Nodup:=by rw [← S.pre]; exact S.nd.sublist (List.take_sublist _ _)
  refine ⟨u,rv,?_⟩
  rcases S.par y (List.mem_of_getElem? hp) with k | k
  ·exact .inl ⟨k,bindL_get ndP hp hu k⟩
  ·obtain ⟨c,e⟩:=cell_has (n:=s.heap.objs.size + 1) k
   refine .inr ⟨.inl k,c,e,?_⟩
   have q:=x.cell y c e
   rw [bindC_get ndP hp hu (by show scope.names.lookup y≠_; rw [k]; decide)] at q
   exact q
 ·exact e0.hok.fresh (Nat.le_of_lt (x.above y c (PySem.mem_of_lookup h)))
 ·unfold start
  show _=N.length
  rw [List.length_append,List.length_map,List.length_replicate]
  lia
theorem fn_of {CX:CXT} {P:Program} {w:World} {K:PySem.W.Frag} {mg:Str→Option Value} {base:Heap} {k:Nat} {f:Addr} {name qual:Str} {params:Arguments} {body:List Stmt} {scope:Scope} {dV kV doc pm cdv ct oc:Value} {an od:Option Addr}
  {osl:Array (Option Value)} {N ps:List Str} {sp:Sp} (lk:K.lookup f=some ⟨oc,od,.func (PySem.W.fnOf name qual params body scope dV kV doc pm an cdv ct),osl⟩) (hcd:PySem.W.codeIn K cdv qual=true) (S:FnScope N ps scope)
  (len:∀ vs H Q E,sp vs H Q E→vs.length=ps.length)
  (hbody:∀ (A:Around) (outer:List Env) (s:Shared) (H:Hp) (vs:List V) (Q:VK) (E:XK),Room k (A.deeper (envOfC qual scope s.heap.objs.size f cdv))→sp vs H Q E →
   ∃ t,PSs (cxOf CX P w K mg base N qual scope f cdv A outer s H E) body t∧t { nx:=fun _ H'=>Q .non H',rt:=Q } (start N vs) H) :
  FnOk P w K mg base CX (k + 1) f (PySem.W.fnOf name qual params body scope dV kV doc pm an cdv ct) ps sp:=by
 refine ⟨len,fun A outer s H args us vs Q E hr e0 hb r hsp=>?_⟩
 have hl:=len _ _ _ _ hsp
 have KX:K.In s.heap:=e0.mod.kin.keeps fun b o e=>(e0.bs b o e).1
 have lim:s.heap.NoLimit:=e0.mod.nolimit.keeps fun b o e=>(e0.bs b o e).1
 have hkind:∀ y∈ps.zip us,scope.names.lookup y.1=some .local∨(scope.names.lookup y.1=some .cell∧((cellsFrom (s.heap.objs.size + 1) scope.names []).lookup y.1).isSome=true):=fun ⟨n,v⟩ hy=>by
  rcases S.par n (List.of_mem_zip hy).1 with q | q
  ·exact .inl q
  ·exact .inr ⟨q,PySem.W.cellsFrom_some _ _ _ (.inl q)⟩
 refine codeAny_call_function hr.depth (KX _ _ lk) rfl S.co S.gen rfl (PySem.W.codeRec_of KX hcd) (hb _ _ _ _ ?_)
 refine wpAny_newFunctionEnv_cells S.kind hkind fun env he s1 x=>?_
 subst he
 refine ⟨lim.keeps x.toInCall.keep,codeAny_func ?_⟩
 obtain ⟨t,ht,hq⟩:=hbody A outer s H vs Q E (hr.deeper _) hsp
 have I:Inv (cxOf CX P w K mg base N qual scope f cdv A outer s H E) [] (start N vs) H s1:=inv_start S hr.hd e0 hl r x
 refine wpAny_mono (ht [] s1 (start N vs) H _ I hq) (fun fl s' hs=>?_) fun e s' hs=>hs
 have fin:∀ {σ':St} {H':Hp} {v:V} {u:Value},Inv (cxOf CX P w K mg base N qual scope f cdv A outer s H E) [] σ' H' s'→RelV v u→Q v H'→CE outer P w H s Q u s' :=
  fun {σ' H' v u} J rv q=>⟨v,H',J.os,J.bare,J.base,J.hok,rv,q⟩
 cases fl with
 | ret u =>
  obtain ⟨v,σ',H',J,rv,q⟩:=hs
  exact fin J rv q
 | next =>
  obtain ⟨σ',H',J,q⟩:=hs
  exact fin (v:=V.non) (u:=Value.none) J rfl q
 | brk =>
  obtain ⟨_,_,_,q⟩:=hs
  exact False.elim q
 | cont =>
  obtain ⟨_,_,_,q⟩:=hs
  exact False.elim q
end L2
namespace L2
open PySem PySem.Spec PyProof.Rows
section
variable {X:Cx} {x:Str} {p pos:Pos} {e:Expr} {es:List Expr} {t:TA} {id T:String} {r:List V→Hp→VK→Prop}
noncomputable def tCB (r:List V→Hp→VK→Prop) (t:TA):TE:=fun σ H Q=>t σ H fun vs H1=>r vs H1 Q
theorem pe_callB (hc:CallR X (.builtin id) r) (hg:Gl X x) (hm:X.mg x=none) (hv:bootBuiltins x=some (.builtin id)) (ha:PA X (e :: es) t) (hn:x≠"__name__":=by decide) (hdb:(x == ("__debug__":Str))=false:=by decide)
  (he:starEach (e :: es) X.env=(false,eval e X.env) :: starEach es X.env:=by rfl) (hpl:(backTo pos (starEach es X.env)).any (·.1)=false:=by rfl):PE X (.Call (.Name x p) (e :: es) [] pos) (tCB r t):=by
 intro pins s σ H Q I h
 refine wpAny_Call_Name_kw (ld_blt I hg hm hv ?_ hn hdb)
 exact PyProof.Rows.callWith_builtin1 (thnA (ha pos pins s σ H _ I h) fun us s1 vs H1 I1 r1 q1=>hc pins s1 σ H1 vs us Q I1 r1 q1) he hpl
theorem pe_callTy (hc:CallR X (.type T) r) (hg:Gl X x) (hm:X.mg x=none) (hv:bootBuiltins x=some (.type T)) (ha:PA X (e :: es) t) (hn:x≠"__name__":=by decide) (hdb:(x == ("__debug__":Str))=false:=by decide)
  (he:starEach (e :: es) X.env=(false,eval e X.env) :: starEach es X.env:=by rfl) (hpl:(backTo pos (starEach es X.env)).any (·.1)=false:=by rfl):PE X (.Call (.Name x p) (e :: es) [] pos) (tCB r t):=by
 intro pins s σ H Q I h
 refine wpAny_Call_Name_kw (ld_blt I hg hm hv ?_ hn hdb)
 exact PyProof.Rows.callWith_type1 (thnA (ha pos pins s σ H _ I h) fun us s1 vs H1 I1 r1 q1=>hc pins s1 σ H1 vs us Q I1 r1 q1) he hpl
end
end L2
namespace L2
open PySem PySem.Spec PyProof.Rows
section
variable {κ:Type} [DecidableEq κ]
noncomputable def valV (kvs:List (κ×V)) (k:κ):Option V:=(kvs.find? fun kv=>decide (kv.1=k)).map (·.2)
noncomputable def putK (kvs:List (κ×V)) (k:κ) (v:V):List (κ×V) :=
 if (kvs.any fun kv=>decide (kv.1=k))=true then kvs.map (fun kv=>if kv.1=k then (kv.1,v) else kv) else kvs ++ [(k,v)]
noncomputable def dropK (kvs:List (κ×V)) (k:κ):List (κ×V):=kvs.filter fun kv=>decide (kv.1≠k)
theorem valV_pos {p:κ×V} {r:List (κ×V)} {k:κ} (e:p.1=k):valV (p :: r) k=some p.2:=by simp [valV,List.find?_cons,e]
theorem valV_neg {p:κ×V} {r:List (κ×V)} {k:κ} (e:¬ p.1=k):valV (p :: r) k=valV r k:=by simp [valV,List.find?_cons,e]
theorem valV_any (k:κ):∀ kvs:List (κ×V),(kvs.any fun kv=>decide (kv.1=k))=(valV kvs k).isSome
 | []=>rfl
 | p :: r=>by
  rw [List.any_cons]
  by_cases e:p.1=k
  ·simp only [valV_pos e,decide_eq_true e,Bool.true_or,Option.isSome_some]
  ·rw [valV_neg e,decide_eq_false e,Bool.false_or]; exact valV_any k r
theorem RelO.isSome_eq {o:Option V} {u:Option Value} (r:RelO o u):o.isSome=u.isSome:=by
 cases o with
 | none=>cases u with
  | none=>rfl
  | some _=>exact (show False from r).elim
 | some _=>cases u with
  | none=>exact (show False from r).elim
  | some _=>rfl
theorem RelO.getD {o:Option V} {u:Option Value} {d:V} {d':Value} (r:RelO o u) (rd:RelV d d'):RelV (o.getD d) (u.getD d'):=by
 cases o with
 | none=>cases u with
  | none=>exact rd
  | some _=>exact (show False from r).elim
 | some _=>cases u with
  | none=>exact (show False from r).elim
  | some _=>exact r
theorem KV.val {kvs:List (κ×V)} {vs:List (κ×Value)} (r:KV kvs vs) (k:κ):RelO (valV kvs k) (valueAt vs k):=by
 unfold KV at r
 induction r with
 | nil=>exact True.intro
 | @cons p q ps qs h t ih =>
  obtain ⟨h1,h2⟩:=h
  by_cases e:p.1=k
  ·have e':q.1=k:=h1.symm.trans e
   have b:valueAt (q :: qs) k=some q.2:=by simp [valueAt,List.find?_cons,e']
   rw [valV_pos e,b]; exact h2
  ·have e':¬ q.1=k:=fun z=>e (h1.trans z)
   have b:valueAt (q :: qs) k=valueAt qs k:=by simp [valueAt,List.find?_cons,e']
   rw [valV_neg e,b]; exact ih
theorem KV.any {kvs:List (κ×V)} {vs:List (κ×Value)} (r:KV kvs vs) (k:κ):(kvs.any fun kv=>decide (kv.1=k))=vs.any fun kv=>decide (kv.1=k):=by
 unfold KV at r
 induction r with
 | nil=>rfl
 | cons h t ih=>rw [List.any_cons,List.any_cons,ih,h.1]
theorem KV.repl {kvs:List (κ×V)} {vs:List (κ×Value)} (r:KV kvs vs) (k:κ) {y:V} {u:Value} (ry:RelV y u) :
  KV (kvs.map fun kv=>if kv.1=k then (kv.1,y) else kv) (vs.map fun kv=>if kv.1=k then (kv.1,u) else kv):=by
 unfold KV at r ⊢
 induction r with
 | nil=>exact .nil
 | @cons p q ps qs h t ih =>
  rw [List.map_cons,List.map_cons]
  refine .cons ?_ ih
  obtain ⟨h1,h2⟩:=h
  by_cases e:p.1=k
  ·rw [if_pos e,if_pos (h1.symm.trans e)]; exact ⟨h1,ry⟩
  ·rw [if_neg e,if_neg (fun z=>e (h1.trans z))]; exact ⟨h1,h2⟩
theorem KV.put {kvs:List (κ×V)} {vs:List (κ×Value)} (r:KV kvs vs) (k:κ) {y:V} {u:Value} (ry:RelV y u):KV (putK kvs k y) (stored vs k u):=by
 unfold putK stored
 rw [r.any k]
 by_cases e:(vs.any fun kv=>decide (kv.1=k))=true
 ·rw [if_pos e,if_pos e]; exact r.repl k ry
 ·rw [if_neg e,if_neg e]; exact Paired.snoc r ⟨rfl,ry⟩
theorem KV.drop {kvs:List (κ×V)} {vs:List (κ×Value)} (r:KV kvs vs) (k:κ):KV (dropK kvs k) (without vs k):=by
 unfold KV at r ⊢
 unfold dropK without
 induction r with
 | nil=>exact .nil
 | @cons p q ps qs h t ih =>
  obtain ⟨h1,h2⟩:=h
  rw [List.filter_cons,List.filter_cons]
  by_cases e:p.1=k
  ·have a:¬ decide (p.1≠k)=true:=by simp [e]
   have b:¬ decide (q.1≠k)=true:=by simp [h1.symm.trans e]
   rw [if_neg a,if_neg b]; exact ih
  ·have e':¬ q.1=k:=fun z=>e (h1.trans z)
   have a:decide (p.1≠k)=true:=by simp [e]
   have b:decide (q.1≠k)=true:=by simp [e']
   rw [if_pos a,if_pos b]; exact .cons ⟨h1,h2⟩ ih
theorem KV.keys {kvs:List (κ×V)} {vs:List (κ×Value)} (r:KV kvs vs):kvs.map (·.1)=vs.map (·.1):=by
 unfold KV at r
 induction r with
 | nil=>rfl
 | cons h t ih=>rw [List.map_cons,List.map_cons,ih,h.1]
theorem KV.length {kvs:List (κ×V)} {vs:List (κ×Value)} (r:KV kvs vs):kvs.length=vs.length:=Paired.length r
end
noncomputable abbrev KT (H:Hp):List (List Key×V)→List (List Key×Addr×Value)→Prop:=Paired fun p q=>p.1=q.1∧H q.2.1=some (.tup (p.1.map kV))∧RelV p.2 q.2.2
theorem KT.val {H:Hp} {kvs:List (List Key×V)} {xs:List (List Key×Addr×Value)} (r:KT H kvs xs) (k:List Key):RelO (valV kvs k) ((atKey xs k).map (·.2)):=by
 induction r with
 | nil=>exact True.intro
 | @cons p q ps qs h t ih =>
  obtain ⟨h1,_,h2⟩:=h
  by_cases e:p.1=k
  ·have e':q.1=k:=h1.symm.trans e
   have b:atKey (q :: qs) k=some q.2:=by simp [atKey,List.find?_cons,e']
   rw [valV_pos e,b]; exact h2
  ·have e':¬ q.1=k:=fun z=>e (h1.trans z)
   have b:atKey (q :: qs) k=atKey qs k:=by simp [atKey,List.find?_cons,e']
   rw [valV_neg e,b]; exact ih
theorem KT.repl {H:Hp} {kvs:List (List Key×V)} {xs:List (List Key×Addr×Value)} (r:KT H kvs xs) (k:List Key) {y:V} {u:Value} (ry:RelV y u) :
  KT H (kvs.map fun kv=>if kv.1=k then (kv.1,y) else kv) (xs.map (putAt k u)):=by
 induction r with
 | nil=>exact .nil
 | @cons p q ps qs h t ih =>
  rw [List.map_cons,List.map_cons]
  refine .cons ?_ ih
  obtain ⟨h1,h2,h3⟩:=h
  unfold putAt
  by_cases e:p.1=k
  ·rw [if_pos e,if_pos (h1.symm.trans e)]; exact ⟨h1,h2,ry⟩
  ·rw [if_neg e,if_neg (fun z=>e (h1.trans z))]; exact ⟨h1,h2,h3⟩
theorem KT.put {H:Hp} {kvs:List (List Key×V)} {xs:List (List Key×Addr×Value)} (r:KT H kvs xs) (k:List Key) {b:Addr} {y:V} {u:Value} (hb:H b=some (.tup (k.map kV))) (ry:RelV y u) :
  KT H (putK kvs k y) (storedH xs k b u):=by
 have e:(kvs.any fun kv=>decide (kv.1=k))=(atKey xs k).isSome:=by
  rw [valV_any,(r.val k).isSome_eq,Option.isSome_map]
 unfold putK storedH
 rw [e]
 by_cases q:(atKey xs k).isSome=true
 ·rw [if_pos q,if_pos q]; exact r.repl k ry
 ·rw [if_neg q,if_neg q]; exact Paired.snoc r ⟨rfl,hb,ry⟩
theorem KT.keeps {H H':Hp} {kvs:List (List Key×V)} {xs:List (List Key×Addr×Value)} (r:KT H kvs xs) (ht:∀ b ys,H b=some (.tup ys)→H' b=some (.tup ys)):KT H' kvs xs :=
 Paired.mapP r fun _ _ z=>⟨z.1,ht _ _ z.2.1,z.2.2⟩
section
variable {P:Program} {w:World} {H:Hp} {h:Heap} {a:Addr}
theorem rd_of {u:HO} (ok:HOk P w H h) (e:Rd H a u):ObjOk P w H h a u:=e.ok ok
theorem dk_rd {kvs:List (Key×V)} (ok:HOk P w H h) (e:Rd H a (.dK kvs)):kvs.length≤sizeLine∧(a == sysModules)=false∧∃ vs,KV kvs vs∧h.DictOf (mixKind P w) a vs :=
 show ObjOk P w H h a (.dK kvs) from rd_of ok e
end
noncomputable def DGet (H:Hp) (a:Addr) (y:V) (r:Option V):Prop :=
 (Ex_2_3 (fun kvs k=>Rd H a (.dK kvs)) (fun kvs k=>y=kV k) (fun kvs k=>r=valV kvs k))∨Ex_3_4 (fun kvs k b=>Rd H a (.dT kvs)) (fun kvs k b=>y=.ref b) (fun kvs k b=>H b=some (.tup (k.map kV))) (fun kvs k b=>r=valV kvs k)
noncomputable def DPut (H:Hp) (a:Addr) (y v:V) (H':Hp):Prop :=
 (Ex_2_4 (fun kvs k=>H a=some (.dK kvs)) (fun kvs k=>y=kV k) (fun kvs k=>kvs.length < sizeLine) (fun kvs k=>H'=upd H a (.dK (putK kvs k v)))) ∨
 Ex_3_5 (fun kvs k b=>H a=some (.dT kvs)) (fun kvs k b=>y=.ref b) (fun kvs k b=>H b=some (.tup (k.map kV))) (fun kvs k b=>kvs.length < sizeLine) (fun kvs k b=>H'=upd H a (.dT (putK kvs k v)))
theorem DGet.k {H:Hp} {a:Addr} {kvs:List (Key×V)} {k:Key} (e:H a=some (.dK kvs)):DGet H a (kV k) (valV kvs k):=.inl ⟨kvs,k,.inl e,rfl,rfl⟩
theorem DGet.t {H:Hp} {a b:Addr} {kvs:List (List Key×V)} {k:List Key} (e:H a=some (.dT kvs)) (eb:H b=some (.tup (k.map kV))):DGet H a (.ref b) (valV kvs k):=.inr ⟨kvs,k,b,.inl e,rfl,eb,rfl⟩
theorem DPut.k {H:Hp} {a:Addr} {kvs:List (Key×V)} {k:Key} {v:V} (e:H a=some (.dK kvs)) (hl:kvs.length < sizeLine):DPut H a (kV k) v (upd H a (.dK (putK kvs k v))):=.inl ⟨kvs,k,e,rfl,hl,rfl⟩
theorem DPut.t {H:Hp} {a b:Addr} {kvs:List (List Key×V)} {k:List Key} {v:V} (e:H a=some (.dT kvs)) (eb:H b=some (.tup (k.map kV))) (hl:kvs.length < sizeLine) :
  DPut H a (.ref b) v (upd H a (.dT (putK kvs k v))):=.inr ⟨kvs,k,b,e,rfl,eb,hl,rfl⟩
section
variable {X:Cx} {pins:List (Addr×Obj)} {σ:St} {H:Hp} {s:Shared} {a:Addr} {y v:V} {u r:Value} {o:Option V} {A:Around} {E:Value→Shared→Prop}
end
section
variable {X:Cx} {pins:List (Addr×Obj)} {σ:St} {H:Hp} {s:Shared} {a:Addr} {kvs:List (Key×V)} {k:Key} {u:Value} {A:Around} {E:Value→Shared→Prop}
end
section
variable {X:Cx} {o i e value:Expr} {pos pos' tpos:Pos} {td ty tv:TE}
end
section
variable {X:Cx} {pos:Pos}
end
structure M1 (X:Cx) (o:Expr) (m:Str) (apos:Pos) (e:Expr) (cpos:Pos):Prop where
 base:attributeBase o m X.env (eval o X.env)=eval o X.env
 few:((backTo cpos (starEach [e] X.env)).all (fun x=>!x.1) && (backToKw cpos (keywordEach [] X.env)).all (fun x=>x.1.isSome)
  && decide (([e]:List Expr).length + ([]:List Keyword).length + (if ([]:List Keyword).isEmpty then 0 else 1) < 30))=true
 line:(apos.endLine == cpos.line)=true
 trees:backTo cpos (starEach [e] X.env)=[(false,eval e X.env)]
structure M2 (X:Cx) (o:Expr) (m:Str) (apos:Pos) (e f:Expr) (cpos:Pos):Prop where
 base:attributeBase o m X.env (eval o X.env)=eval o X.env
 few:((backTo cpos (starEach [e,f] X.env)).all (fun x=>!x.1) && (backToKw cpos (keywordEach [] X.env)).all (fun x=>x.1.isSome)
  && decide (([e,f]:List Expr).length + ([]:List Keyword).length + (if ([]:List Keyword).isEmpty then 0 else 1) < 30))=true
 line:(apos.endLine == cpos.line)=true
 trees:backTo cpos (starEach [e,f] X.env)=[(false,eval e X.env),(false,eval f X.env)]
noncomputable def IsD (H:Hp) (a:Addr):Prop:=(∃ kvs,Rd H a (.dK kvs))∨∃ kvs,Rd H a (.dT kvs)
section
variable {X:Cx} {pins:List (Addr×Obj)} {σ:St} {H:Hp} {s:Shared} {a:Addr} {y d:V} {u r:Value} {o:Option V} {A:Around} {E:Value→Shared→Prop}
end
section
variable {X:Cx} {o e f:Expr} {apos cpos:Pos} {td ty tx:TE}
end
section
variable {X:Cx} {pins:List (Addr×Obj)} {σ:St} {H:Hp} {s:Shared} {a:Addr} {kvs:List (Key×V)} {A:Around} {E:Value→Shared→Prop}
end
section
variable {X:Cx} {pins:List (Addr×Obj)} {σ:St} {H:Hp} {s:Shared} {a:Addr} {y:V} {u:Value} {A:Around} {E:Value→Shared→Prop}
end
end L2
namespace HT
open PySem PyProof.Rows
section
open PySem.SeqAt
open PySem.AutoSeq1 (wpAny_loadPart')
open PySem.MeetsSeq PySem.MeetsSeq2 PySem.MeetsSeq3
end
section
variable {prog:Program} {w:World} {A:Around} {E:Value→Shared→Prop} {s:Shared}
theorem cat_tup {t b:Addr} {vs ws:List Value} {Q:Value→Shared→Prop} (ht:IsTup s.heap t vs.toArray) (hb:IsTup s.heap b ws.toArray) (hv:vs≠[])
  (h1:ws=[]→Q (.ref t) s) (h2:ws≠[]→Q (.ref s.heap.objs.size) { s with heap:=s.heap.push { cls:=.type "tuple",data:=.seq (vs ++ ws).toArray } })
  (hsz:vs.length + ws.length≤sizeLine):wpAny (model prog w) A (binaryOp .Add (.ref t) (.ref b)) Q E s:=by
 obtain ⟨⟨cls,dd,data,sl⟩,ho,hc,n,hd⟩:=id ht
 obtain ⟨⟨cls2,dd2,data2,sl2⟩,ho2,hc2,n2,hd2⟩:=id hb
 simp only at hc hd hc2 hd2
 subst hc hd hc2 hd2
 have e:vs.toArray ++ ws.toArray=(vs ++ ws).toArray:=by simp
 by_cases hw:ws=[]
 ·exact concat_meets ⟨_,ho,rfl⟩ ⟨_,ho2,rfl⟩ noFill_tuple_add seq_tuple_add PySem.F.slot_tuple_add PySem.F.entry_tuple_add (PySem.F.args_tuple_add_2 _ _)
   (tuple_addW1 t b vs.toArray ws.toArray n n2 dd dd2 sl sl2 (by simpa using hv) (by simp [hw])) ⟨ho,ho2,h1 hw⟩
 ·refine concat_meets ⟨_,ho,rfl⟩ ⟨_,ho2,rfl⟩ noFill_tuple_add seq_tuple_add PySem.F.slot_tuple_add PySem.F.entry_tuple_add (PySem.F.args_tuple_add_2 _ _)
   (tuple_addW2 t b vs.toArray ws.toArray n n2 dd dd2 sl sl2 (by simpa using hv) (by simpa using hw) (by rw [List.size_toArray,List.size_toArray]; exact hsz)) ⟨ho,ho2,?_⟩
  rw [e]
  exact h2 hw
noncomputable def sIx (n d:Nat):Option Int→Nat
 | none=>d
 | some v=>if v < 0 then (v + (n:Int)).toNat else min v.toNat n
theorem sIx_nat (n d k:Nat):sIx n d (some (k:Int))=min k n:=by
 show (if (k:Int) < 0 then ((k:Int) + (n:Int)).toNat else min (k:Int).toNat n)=min k n
 rw [if_neg (by lia),Int.toNat_natCast]
theorem sIx_le (n d:Nat) (hd:d≤n) (o:Option Int):sIx n d o≤n:=by
 cases o with
 | none=>exact hd
 | some v =>
  show (if v < 0 then (v + (n:Int)).toNat else min v.toNat n)≤n
  by_cases hv:v < 0
  ·rw [if_pos hv]; lia
  ·rw [if_neg hv]; exact Nat.min_le_right _ _
theorem clip_eq (v:Int) (n d:Nat):(if v < 0 then max (v + (n:Int)) 0 else min v (n:Int))=((sIx n d (some v):Nat):Int):=by
 show (if v < 0 then max (v + (n:Int)) 0 else min v (n:Int))=(((if v < 0 then (v + (n:Int)).toNat else min v.toNat n):Nat):Int)
 by_cases hv:v < 0
 ·simp only [if_pos hv]; lia
 ·simp only [if_neg hv]; lia
theorem adjust_gen (lo hi:Option Int) (n:Nat):Builtin.Slice.sliceAdjust lo hi 1 (n:Int)=(((sIx n 0 lo:Nat):Int),((sIx n n hi:Nat):Int)):=by
 have h1:¬ ((1:Int) < 0):=by lia
 unfold Builtin.Slice.sliceAdjust
 simp only [h1,if_false]
 refine Prod.ext ?_ ?_
 ·cases lo with
  | none=>rfl
  | some v=>exact clip_eq v n 0
 ·cases hi with
  | none=>rfl
  | some v=>exact clip_eq v n n
theorem places_gen (i j:Nat):Builtin.Slice.slicePlaces (i:Int) (j:Int) 1=j - i:=by
 unfold Builtin.Slice.slicePlaces
 have h1:(1:Int) > 0:=by lia
 simp only [h1,if_true,Int.ediv_one]
 split <;> lia
theorem slicePart_ {v:Value} {o:Option Int} {Q:Option Int→Shared→Prop} (p:IsPart v o) (h:Q o s):wpAny (model prog w) A (Builtin.Slice.slicePartIndex v) Q E s:=by
 cases p with
 | none=>exact slicePart_none h
 | int i t=>exact slicePart_int h
theorem sliceApplied_gen {sl:Addr} {vl vu:Value} {lo hi:Option Int} {n:Nat} {Q:Int×Int×Nat→Shared→Prop} (hs:s.heap.IsSliceOf sl vl vu .none) (pl:IsPart vl lo) (pu:IsPart vu hi)
  (h:Q (((sIx n 0 lo:Nat):Int),1,sIx n n hi - sIx n 0 lo) s):wpAny (model prog w) A (Builtin.Slice.sliceApplied (.ref sl) (pure (n:Int))) Q E s:=by
 obtain ⟨os,hos,hcs,hds⟩:=id hs
 unfold Builtin.Slice.sliceApplied Builtin.Slice.sliceFields
 refine wpAny_bind (wpAny_bind (wpAny_field hos hds (x:=vl) rfl (wpAny_bind (wpAny_field hos hds (x:=vu) rfl (wpAny_bind (wpAny_field hos hds (x:=.none) rfl (wpAny_pure ?_)))))))
 refine wpAny_bind (slicePart_none ?_)
 show wpAny _ _ (if ((1:Int) == 0)=true then _ else _) _ _ s
 rw [if_neg (by decide)]
 refine wpAny_bind (slicePart_ pl (wpAny_bind (slicePart_ pu (wpAny_bind (wpAny_pure ?_)))))
 show wpAny _ _ (match Builtin.Slice.sliceAdjust lo hi 1 (n:Int) with | (lo,hi)=>pure (lo,(1:Int),Builtin.Slice.slicePlaces lo hi 1)) _ _ s
 rw [adjust_gen lo hi n]
 show wpAny _ _ (pure (((sIx n 0 lo:Nat):Int),(1:Int),Builtin.Slice.slicePlaces ((sIx n 0 lo:Nat):Int) ((sIx n n hi:Nat):Int) 1)) _ _ s
 rw [places_gen]
 exact wpAny_pure h
theorem pick_gen (xs:Array Value) (i k:Nat):((List.range k).filterMap fun (m:Nat)=>xs[((i:Int) + (m:Int) * 1).toNat]?).toArray=((xs.toList.drop i).take k).toArray:=by
 have e:(fun (m:Nat)=>xs[((i:Int) + (m:Int) * 1).toNat]?)=fun m=>xs[i + m]?:=by
  funext m
  have:((i:Int) + (m:Int) * 1).toNat=i + m:=by lia
  rw [this]
 rw [e]
 have:=pick_run xs i k
 rw [List.filterMap_map] at this
 have e2:((fun x=>xs[x]?) ∘ fun x=>i + x)=fun m=>xs[i + m]?:=rfl
 rw [e2] at this
 rw [this]
theorem getItem_tuple_cut {t sl:Addr} {items:Array Value} {vl vu:Value} {lo hi:Option Int} {Q:Value→Shared→Prop} (ht:IsTup s.heap t items) (hs:s.heap.IsSliceOf sl vl vu .none) (pl:IsPart vl lo) (pu:IsPart vu hi)
  (hw:¬ (sIx items.size 0 lo=0∧sIx items.size items.size hi=items.size))
  (h:Q (.ref s.heap.objs.size) { s with heap:=s.heap.push { cls:=.type "tuple",data:=.seq ((items.toList.drop (sIx items.size 0 lo)).take (sIx items.size items.size hi - sIx items.size 0 lo)).toArray } })
  (hsz:items.size≤sizeLine):wpAny (model prog w) A (getItem (.ref t) (.ref sl)) Q E s:=by
 have htake:sizeOk (.seq ((items.toList.drop (sIx items.size 0 lo)).take (sIx items.size items.size hi - sIx items.size 0 lo)).toArray):=by
  show ((items.toList.drop (sIx items.size 0 lo)).take (sIx items.size items.size hi - sIx items.size 0 lo)).toArray.size≤sizeLine
  rw [List.size_toArray,List.length_take,List.length_drop,Array.length_toList]
  lia
 have hj:sIx items.size items.size hi≤items.size:=sIx_le _ _ (Nat.le_refl _) hi
 obtain ⟨os,hos,hcs,hds⟩:=id hs
 have hTs:s.TypeIs (.ref sl) "slice":=⟨os,hos,hcs⟩
 unfold getItem
 try with_reducible refine wpAny_holding ?_
 first | refine wpAny_bind (wpAny_pure ?_) | skip
 refine wpAny_bind (wpAny_sequenceKey ht.typeIs (by decide) ?_)
 refine wpAny_bind (wpAny_callSpecial?_slot (name:=Str.ofString "__getitem__") ht.typeIs PyProof.Rows.slot_tuple_getitem
  (wpAny_call_entry PyProof.Rows.slot_tuple_getitem ht.typeIs entry_tuple_getitem ?_ (args_tuple_getitem _ _)))
 show wpAny _ _ (Builtin.Tuple.tupleItemsOf (.ref t) >>= _) _ _ s
 refine wpAny_bind (tupleItemsOf_ ht ?_)
 refine wpAny_bind (wpAny_typeOf hTs ?_)
 rw [if_pos (by decide)]
 refine wpAny_bind (sliceApplied_gen hs pl pu ?_)
 have hno:¬ ((((sIx items.size 0 lo:Nat):Int) == 0 && (1:Int) == 1 && (sIx items.size items.size hi - sIx items.size 0 lo) == items.size)=true):=by
  intro q
  rw [Bool.and_eq_true,Bool.and_eq_true] at q
  have q1:((sIx items.size 0 lo:Nat):Int)=0:=eq_of_beq q.1.1
  have q2:sIx items.size items.size hi - sIx items.size 0 lo=items.size:=eq_of_beq q.2
  exact hw ⟨by lia,by lia⟩
 show wpAny _ _ (if (((sIx items.size 0 lo:Nat):Int) == 0 && (1:Int) == 1 && (sIx items.size items.size hi - sIx items.size 0 lo) == items.size)=true then _ else _) _ _ s
 rw [if_neg hno,pick_gen]
 first
  | exact wpAny_bind (m:=Builtin.Tuple.tupleExact _) (wpAny_newObj_type (wpAny_pure ⟨_,rfl,wpAny_pure h⟩) htake)
  | exact wpAny_bind (m:=Builtin.Tuple.tupleExact _) (wpAny_newObj_type (wpAny_bind (wpAny_pure (wpAny_pure ⟨_,rfl,wpAny_pure h⟩))) htake)
  | exact wpAny_bind (wpAny_bind (m:=Builtin.Tuple.tupleExact _) (wpAny_newObj_type (wpAny_pure (wpAny_pure ⟨_,rfl,wpAny_pure h⟩)) htake))
  | exact wpAny_bind (wpAny_bind (m:=Builtin.Tuple.tupleExact _) (wpAny_newObj_type (wpAny_pure ⟨_,rfl,wpAny_pure h⟩) htake))
end
end HT
namespace L2
open PySem PySem.Spec PyProof.Rows
noncomputable abbrev TO:=St→Hp→(Option Int→Hp→Prop)→Prop
noncomputable def PO (X:Cx) (e:Option Expr) (t:TO):Prop :=
 ∀ (pins:List (Addr×Obj)) (s:Shared) (σ:St) (H:Hp) (Q:Option Int→Hp→Prop),Inv X pins σ H s→t σ H Q →
  wpAny (model X.prog X.w) X.A (evalPart e X.env) (fun u s'=>Ex_2_3 (fun o H'=>Inv X pins σ H' s') (fun o H'=>IsPart u o) (fun o H'=>Q o H')) X.xe s
noncomputable def tNoPart:TO:=fun _ H Q=>Q none H
noncomputable def tPart (t:TE):TO:=fun σ H Q=>t σ H fun x H1=>Ex_1_2 (fun i=>x=.int i) (fun i=>Q (some i) H1)
section
variable {X:Cx} {e:Expr} {te:TE} {lo hi:Option Expr} {tl th:TO} {pos p2:Pos}
theorem po_none:PO X none tNoPart:=by
 intro pins s σ H Q I h
 rw [evalPart_none]
 exact wpAny_pure ⟨none,H,I,.none,h⟩
theorem po_some (h:PE X e te):PO X (some e) (tPart te):=by
 intro pins s σ H Q I hw
 rw [evalPart_some]
 refine thnE (h pins s σ H _ I hw) fun u s1 x H1 I1 r1 q1=>?_
 obtain ⟨i,rfl,q⟩:=q1
 obtain ⟨t,rfl⟩:=r1
 exact ⟨some i,H1,I1,.int i t,q⟩
noncomputable def SlR (X:Cx) (r:V→Option Int→Option Int→Hp→VK→Prop):Prop :=
 ∀ (pins:List (Addr×Obj)) (s:Shared) (σ:St) (H:Hp) (x:V) (v vl vu:Value) (lo hi:Option Int) (sl:Addr) (Q:VK),Inv X pins σ H s→RelV x v→s.heap.IsSliceOf sl vl vu .none→IsPart vl lo→IsPart vu hi→r x lo hi H Q →
  Ex_2_3 (fun T id=>typeLookup (.type T) "__getitem__"=pure (some (.builtin id))) (fun T id=>s.TypeIs v T) (fun T id=>wpAny (model X.prog X.w) X.A (getItem v (.ref sl)) (EP X pins σ Q) X.xe s)
theorem SlR.or {r r':V→Option Int→Option Int→Hp→VK→Prop} (h:SlR X r) (h':SlR X r'):SlR X (fun x lo hi H Q=>r x lo hi H Q∨r' x lo hi H Q):=by
 intro pins s σ H x v vl vu lo hi sl Q I rx hs pl pu q
 rcases q with q | q
 ·exact h pins s σ H x v vl vu lo hi sl Q I rx hs pl pu q
 ·exact h' pins s σ H x v vl vu lo hi sl Q I rx hs pl pu q
noncomputable def tSl (r:V→Option Int→Option Int→Hp→VK→Prop) (te:TE) (tl th:TO):TE:=fun σ H Q=>te σ H fun x H1=>tl σ H1 fun l H2=>th σ H2 fun u H3=>r x l u H3 Q
theorem pe_slice {r:V→Option Int→Option Int→Hp→VK→Prop} (hr:SlR X r) (he:PE X e te) (hl:PO X lo tl) (hu:PO X hi th):PE X (.Subscript e (.Slice lo hi none p2) pos) (tSl r te tl th):=by
 intro pins s σ H Q I h
 refine Subscript_ (thnE (he pins s σ H _ I h) fun v s1 x H1 I1 r1 q1=>?_)
 refine wpAny_Slice (thn (hl pins s1 σ H1 _ I1 q1) fun vl s2 ⟨l,H2,I2,pl,q2⟩=>thn (hu pins s2 σ H2 _ I2 q2) fun vu s3 ⟨u,H3,I3,pu,q3⟩=>?_)
 rw [evalPart_none]
 refine wpAny_pure ?_
 have I4:Inv X pins σ H3 { s3 with heap:=s3.heap.push { cls:=.type "slice",data:=.fields #[vl,vu,.none] } }:=I3.kept (t':=s3.toks) fun b ob q=>Heap.get?_push_of_some _ q
 obtain ⟨T,id,hT,ht,hg⟩:=hr pins { s3 with heap:=s3.heap.push { cls:=.type "slice",data:=.fields #[vl,vu,.none] } } σ H3 x v vl vu l u s3.heap.objs.size Q I4 r1 (Heap.IsSliceOf.new ..) pl pu q3
 show wpAny (model X.prog X.w) X.A (subscriptTail e (.Slice lo hi none p2) v (.ref s3.heap.objs.size)) (EP X pins σ Q) X.xe { s3 with heap:=s3.heap.push { cls:=.type "slice",data:=.fields #[vl,vu,.none] } }
 exact tail_any (ops:=[.ref s3.heap.objs.size,v]) ht hT hg (by with_unfolding_all rfl)
noncomputable def cutV (xs:List V) (lo hi:Option Int):List V:=(xs.drop (HT.sIx xs.length 0 lo)).take (HT.sIx xs.length xs.length hi - HT.sIx xs.length 0 lo)
theorem cutV_length (xs:List V) (lo hi:Option Int):(cutV xs lo hi).length≤xs.length:=by
 unfold cutV
 rw [List.length_take,List.length_drop]
 lia
noncomputable def rSlT (K:PySem.W.Frag):V→Option Int→Option Int→Hp→VK→Prop:=fun x lo hi H Q=>Ex_2_4 (fun a xs=>x=.ref a) (fun a xs=>SqT K H a xs) (fun a xs=>¬ (HT.sIx xs.length 0 lo=0∧HT.sIx xs.length xs.length hi=xs.length)) (fun a xs=>∀ p,H p=none→Q (.ref p) (upd H p (.tup (cutV xs lo hi))))
theorem sl_tup:SlR X (rSlT X.K):=by
 intro pins s σ H x v vl vu lo hi sl Q I rx hs pl pu h
 obtain ⟨a,xs,rfl,hx,hw,q⟩:=h
 cases rx
 obtain ⟨its,r,ht,hz⟩:=I.tuple hx
 have hlen:its.toArray.size=xs.length:=by rw [List.size_toArray]; exact r.length.symm
 refine ⟨"tuple",_,PyProof.Rows.slot_tuple_getitem.lookup,ht.typeIs,?_⟩
 refine HT.getItem_tuple_cut ht hs pl pu (by rw [hlen]; exact hw) ?_ (by rw [hlen]; exact hz)
 rw [hlen]
 refine ⟨.ref s.heap.objs.size,_,I.laid (t':=s.toks) (o:=.tup (cutV xs lo hi)) (fun b ob q=>Heap.get?_push_of_some _ q) (Nat.le_refl _) ?_,rfl,q _ (I.hok.fresh (Nat.le_refl _))⟩
 exact ⟨Nat.le_trans (cutV_length xs lo hi) hz,_,(r.drop (HT.sIx xs.length 0 lo)).take (HT.sIx xs.length xs.length hi - HT.sIx xs.length 0 lo),IsTup.new _ _⟩
noncomputable def rCatT (K:PySem.W.Frag):R2:=fun x y H Q=>Ex_4_8 (fun a b xs ys=>x=.ref a) (fun a b xs ys=>y=.ref b) (fun a b xs ys=>SqT K H a xs) (fun a b xs ys=>SqT K H b ys) (fun a b xs ys=>xs≠[]) (fun a b xs ys=>xs.length + ys.length≤sizeLine) (fun a b xs ys=>(ys=[]→Q (.ref a) H)) (fun a b xs ys=>(ys≠[]→∀ p,H p=none→Q (.ref p) (upd H p (.tup (xs ++ ys)))))
theorem Vals.nil_iff {xs:List V} {us:List Value} (r:Vals xs us):us=[] ↔ xs=[]:=by
 cases r with
 | nil=>simp
 | cons _ _=>simp
theorem op_catT:OpR X (binaryOp .Add) (rCatT X.K):=by
 intro pins s σ H x y v u Q I rx ry h
 obtain ⟨a,b,xs,ys,rfl,rfl,ha,hb,hx,hz,q1,q2⟩:=h
 cases rx
 cases ry
 obtain ⟨its,r1,p1,_⟩:=I.tuple ha
 obtain ⟨its2,r2,p2,_⟩:=I.tuple hb
 refine HT.cat_tup p1 p2 (fun z=>hx (r1.nil_iff.mp z)) (fun z=>⟨.ref a,H,I,rfl,q1 (r2.nil_iff.mp z)⟩) (fun z=>?_) (by rw [← r1.length,← r2.length]; exact hz)
 refine ⟨.ref s.heap.objs.size,_,I.laid (t':=s.toks) (o:=.tup (xs ++ ys)) (fun b ob q=>Heap.get?_push_of_some _ q) (Nat.le_refl _) ?_,rfl,q2 (fun w=>z (r2.nil_iff.mpr w)) _ (I.hok.fresh (Nat.le_refl _))⟩
 exact ⟨by rw [List.length_append]; exact hz,_,r1.append r2,IsTup.new _ _⟩
end
end L2
namespace L2
open PySem PySem.Spec PyProof.Rows
noncomputable def ixN (n:Nat) (i:Int):Option Nat:=if 0≤i then (if i < n then some i.toNat else none) else if -(n:Int)≤i then some (i + n).toNat else none
noncomputable def atI {α:Type} (xs:List α) (i:Int):Option α:=(ixN xs.length i).bind fun j=>xs[j]?
theorem ixN_seq {n:Nat} {i:Int} {j:Nat} (h:ixN n i=some j):seqIndex? i n=some j∧j < n∧-(n:Int)≤i∧i < n:=by
 unfold ixN at h
 by_cases h0:0≤i
 ·rw [if_pos h0] at h
  by_cases h1:i < n
  ·rw [if_pos h1] at h
   have e:i.toNat=j:=Option.some.inj h
   exact ⟨by rw [seqIndex_of h0 h1,e],by lia,by lia,h1⟩
  ·rw [if_neg h1] at h; cases h
 ·rw [if_neg h0] at h
  by_cases h1:-(n:Int)≤i
  ·rw [if_pos h1] at h
   have e:(i + n).toNat=j:=Option.some.inj h
   exact ⟨by rw [seqIndex_neg (by lia) h1,e],by lia,h1,by lia⟩
  ·rw [if_neg h1] at h; cases h
theorem atI_get {α:Type} {xs:List α} {i:Int} {v:α} (h:atI xs i=some v):∃ j,seqIndex? i xs.length=some j∧xs[j]?=some v∧j < xs.length∧-(xs.length:Int)≤i∧i < xs.length:=by
 unfold atI at h
 cases e:ixN xs.length i with
 | none=>rw [e] at h; cases h
 | some j =>
  rw [e] at h
  obtain ⟨h1,h2,h3,h4⟩:=ixN_seq e
  exact ⟨j,h1,h,h2,h3,h4⟩
theorem atI_nat {α:Type} {xs:List α} {j:Nat} {v:α} (h:xs[j]?=some v):atI xs (j:Int)=some v:=by
 have hj:j < xs.length:=(List.getElem?_eq_some_iff.mp h).1
 have e:ixN xs.length (j:Int)=some j:=by
  unfold ixN
  rw [if_pos (by lia),if_pos (by lia)]; simp
 unfold atI; rw [e]; exact h
theorem atI_last {α:Type} (xs:List α) (v:α):atI (xs ++ [v]) (-1)=some v:=by
 have hl:(xs ++ [v]).length=xs.length + 1:=by simp
 have e:ixN (xs ++ [v]).length (-1)=some xs.length:=by
  unfold ixN
  rw [hl,if_neg (by decide),if_pos (by lia)]
  congr 1
  lia
 unfold atI
 rw [e]
 show (xs ++ [v])[xs.length]?=some v
 simp
noncomputable def PlainIx (b:Expr):Prop:=∀ o i,subscripted b false o i=operate [o,i] (getItem o i)
noncomputable def IxR (X:Cx) (r:R2):Prop :=
 ∀ (value slice:Expr) (pins:List (Addr×Obj)) (s:Shared) (σ:St) (H:Hp) (x y:V) (v u:Value) (Q:VK),Inv X pins σ H s→RelV x v→RelV y u→r x y H Q →
  subscripted slice false v u=operate [v,u] (getItem v u)→wpAny (model X.prog X.w) X.A (subscriptTail value slice v u) (EP X pins σ Q) X.xe s
noncomputable def MtR (X:Cx) (id:String) (r:V→List V→Hp→VK→Prop):Prop :=
 ∀ (pins:List (Addr×Obj)) (s:Shared) (σ:St) (H:Hp) (x:V) (xs:List V) (v:Value) (us:List Value) (Q:VK),Inv X pins σ H s→RelV x v→Vals xs us→r x xs H Q →
  wpAny (model X.prog X.w) X.A (call (.builtin id) (v :: us)) (EP X pins σ Q) X.xe s
section
variable {X:Cx} {a b:Expr} {ta tb:TE} {pos:Pos}
theorem IxR.or {r r':R2} (h:IxR X r) (h':IxR X r'):IxR X (fun x y H Q=>r x y H Q∨r' x y H Q):=by
 intro value slice pins s σ H x y v u Q I rx ry q hs
 rcases q with q | q
 ·exact h value slice pins s σ H x y v u Q I rx ry q hs
 ·exact h' value slice pins s σ H x y v u Q I rx ry q hs
theorem MtR.or {id:String} {r r':V→List V→Hp→VK→Prop} (h:MtR X id r) (h':MtR X id r'):MtR X id (fun x xs H Q=>r x xs H Q∨r' x xs H Q):=by
 intro pins s σ H x xs v us Q I rx rs q
 rcases q with q | q
 ·exact h pins s σ H x xs v us Q I rx rs q
 ·exact h' pins s σ H x xs v us Q I rx rs q
theorem pe_ix {r:R2} (hr:IxR X r) (ha:PE X a ta) (hb:PE X b tb) (hs:PlainIx b):PE X (.Subscript a b pos) (tOp r ta tb):=by
 intro pins s σ H Q I h
 exact Subscript_ (binT ha hb I h fun v u s2 x y H2 I2 rx ry q=>hr a b pins s2 σ H2 x y v u Q I2 rx ry q (hs _ _))
noncomputable def rIxL (K:PySem.W.Frag):R2:=fun x y H Q=>Ex_4_5 (fun p xs i v=>x=.ref p) (fun p xs i v=>y=.int i) (fun p xs i v=>SqL K H p xs) (fun p xs i v=>atI xs i=some v) (fun p xs i v=>Q v H)
noncomputable def rIxT (K:PySem.W.Frag):R2:=fun x y H Q=>Ex_4_5 (fun p xs i v=>x=.ref p) (fun p xs i v=>y=.int i) (fun p xs i v=>SqT K H p xs) (fun p xs i v=>atI xs i=some v) (fun p xs i v=>Q v H)
noncomputable def rIxS:R2:=fun x y H Q=>Ex_3_5 (fun z i c=>x=.str z) (fun z i c=>y=.int i) (fun z i c=>z.length≤sizeLine) (fun z i c=>atI z.cps.toList i=some c) (fun z i c=>Q (.str ⟨#[c]⟩) H)
theorem ix_list:IxR X (rIxL X.K):=by
 intro value slice pins s σ H x y v u Q I rx ry h hs
 obtain ⟨p,xs,i,z,rfl,rfl,hq,he,q⟩:=h
 cases rx
 obtain ⟨t,rfl⟩:=ry
 obtain ⟨its,r,pl,hz⟩:=I.list hq
 obtain ⟨j,h1,h2,h3,h4,h5⟩:=atI_get he
 obtain ⟨w,ew,rw'⟩:=r.get h2
 have hl:=r.length
 have hn:=line63
 have fin:EP X pins σ Q w s:=⟨z,H,I,rw',q⟩
 by_cases h0:0≤i
 ·have hj:i.toNat=j:=by
   rw [seqIndex_of h0 h5] at h1
   exact Option.some.inj h1
  exact item_listR pl.isList h0 (by lia) (by rw [hj]; simpa using ew) fin hs
 ·have hj:(i + (its.toArray.size:Int)).toNat=j:=by
   rw [seqIndex_neg (by lia) h4] at h1
   rw [List.size_toArray,← hl]
   exact Option.some.inj h1
  exact subscriptTail_builtinR (x:=w) pl.isList.typeIs slot_list_getitem.lookup
   (wpAny_getItem_list_neg (Q:=fun r s'=>r=w∧EP X pins σ Q r s') pl.isList (by lia) (by rw [List.size_toArray] <;> lia) (by lia) (by rw [hj]; simpa using ew) ⟨rfl,fin⟩) hs
theorem ix_tup:IxR X (rIxT X.K):=by
 intro value slice pins s σ H x y v u Q I rx ry h hs
 obtain ⟨p,xs,i,z,rfl,rfl,hq,he,q⟩:=h
 cases rx
 obtain ⟨t,rfl⟩:=ry
 obtain ⟨its,r,pl,hz⟩:=I.tuple hq
 obtain ⟨j,h1,h2,h3,h4,h5⟩:=atI_get he
 obtain ⟨w,ew,rw'⟩:=r.get h2
 have hl:=r.length
 have hn:=line63
 have fin:EP X pins σ Q w s:=⟨z,H,I,rw',q⟩
 exact subscriptTail_builtinR (x:=w) pl.typeIs slot_tuple_getitem.lookup
  (getItem_tuple (j:=j) (Q:=fun r s'=>r=w∧EP X pins σ Q r s') pl (by lia) (by lia) (by rw [List.size_toArray,← hl]; exact h1) (by simpa using ew) ⟨rfl,fin⟩) hs
theorem ix_str:IxR X rIxS:=by
 intro value slice pins s σ H x y v u Q I rx ry h hs
 obtain ⟨z,i,c,rfl,rfl,hz,he,q⟩:=h
 obtain ⟨t,rfl⟩:=rx
 obtain ⟨t',rfl⟩:=ry
 obtain ⟨j,h1,h2,h3,h4,h5⟩:=atI_get he
 have hl:z.cps.toList.length=z.length:=by simp [Str.length]
 rw [hl] at h1 h4 h5
 have hn:=line63
 exact tail_any (typeIs_str s z t) slot_str_getitem.lookup (getItem_str (c:=c) (by
  have e1:decide (i < -(2 ^ 63:Int))=false:=decide_eq_false (by lia)
  have e2:decide (i ≥ 2 ^ 63)=false:=decide_eq_false (by lia)
  rw [e1,e2,Bool.or_false]) (by rw [h1]; simpa using h2) ⟨.str ⟨#[c]⟩,H,I.tok _,⟨_,rfl⟩,q⟩) hs
theorem mapSeq_set (its:List Value) (n j:Nat) (u:Value):Obj.mapSeq (·.setIfInBounds j u) { cls:=.type "list",data:=.seq its.toArray n }={ cls:=.type "list",data:=.seq (its.set j u).toArray n }:=by
 simp [Obj.mapSeq]
theorem Inv.lst {pins:List (Addr×Obj)} {σ:St} {H:Hp} {s:Shared} {p:Addr} {xs:List V} (I:Inv X pins σ H s) (h:H p=some (.lst xs)) :
  Ex_2_3 (fun (its:List Value) (n:Nat)=>Vals xs its) (fun its n=>s.heap.get? p=some { cls:=.type "list",data:=.seq its.toArray n }) (fun its n=>xs.length≤sizeLine):=by
 obtain ⟨z,its,n,r,e⟩:=I.hok p _ h
 exact ⟨its,n,r,e,z⟩
theorem Inv.lstUpd {pins:List (Addr×Obj)} {σ:St} {H:Hp} {s:Shared} {p:Addr} {xs ys:List V} {its its':List Value} {n n':Nat} {f:Obj→Obj} (I:Inv X pins σ H s) (h:H p=some (.lst xs))
  (ho:s.heap.get? p=some { cls:=.type "list",data:=.seq its.toArray n }) (hf:f { cls:=.type "list",data:=.seq its.toArray n }={ cls:=.type "list",data:=.seq its'.toArray n' }) (r:Vals ys its') (hz:ys.length≤sizeLine) (t:Nat) :
  Inv X pins σ (upd H p (.lst ys)) { s with heap:=s.heap.update p f,toks:=t }:=by
 have e:(s.heap.update p f).get? p=some { cls:=.type "list",data:=.seq its'.toArray n' }:=by
  rw [Heap.get?_update_self f ho (by rw [hf] <;> rfl),hf]
 refine I.write (x:=p) (e:=p) (by rw [h]; trivial) (.inl rfl) (fun b u hb q=>(Heap.get?_update_other _ _ (Ne.symm hb)).trans q) ⟨_,e⟩ ?_
 exact ⟨hz,its',n',r,e⟩
noncomputable def rSetL:V→V→V→Hp→(Hp→Prop)→Prop:=fun o i v H Q=>Ex_4_5 (fun p xs k j=>o=.ref p) (fun p xs k j=>i=.int k) (fun p xs k j=>H p=some (.lst xs)) (fun p xs k j=>ixN xs.length k=some j) (fun p xs k j=>Q (upd H p (.lst (xs.set j v))))
theorem set_list:PSet X rSetL:=by
 intro pins s σ H o i v ov iv u Q I ro ri rv h
 obtain ⟨p,xs,k,j,rfl,rfl,hp,hj,q⟩:=h
 cases ro
 obtain ⟨t,rfl⟩:=ri
 obtain ⟨its,n,r,ho,hz⟩:=I.lst hp
 obtain ⟨h1,h2,h3,h4⟩:=ixN_seq hj
 have hl:=r.length
 have hn:=line63
 have I':Inv X pins σ (upd H p (.lst (xs.set j v))) { s with heap:=s.heap.update p (Obj.mapSeq (·.setIfInBounds j u)) } :=
  I.lstUpd hp ho (mapSeq_set its n j u) (r.set rv j) (by rw [List.length_set]; exact hz) s.toks
 by_cases h0:0≤k
 ·have hk:k.toNat=j:=by
   rw [seqIndex_of h0 h4] at h1
   exact Option.some.inj h1
  exact PySem.W.ki_setAt ho h0 (by lia) (by rw [List.size_toArray,← hl]; exact h4) (by rw [hk]; exact ⟨_,I',q⟩)
 ·have hk:(k + (its.toArray.size:Int)).toNat=j:=by
   rw [seqIndex_neg (by lia) h3] at h1
   rw [List.size_toArray,← hl]
   exact Option.some.inj h1
  exact PySem.W.ki_setBack ho (by lia) (by rw [List.size_toArray,← hl]; exact h3) (by lia) (by rw [hk]; exact ⟨_,I',q⟩)
theorem sIx_w (v:Int) (n:Nat):(if v < 0 then n - (-v).toNat else min v.toNat n)=(if v < 0 then (v + (n:Int)).toNat else min v.toNat n):=by
 by_cases h:v < 0
 ·rw [if_pos h,if_pos h]; lia
 ·rw [if_neg h,if_neg h]
theorem slice_bounds (lo hi:Option Int) (n:Nat):(sliceBounds lo hi none n).1=((HT.sIx n 0 lo:Nat):Int)∧(sliceBounds lo hi none n).2.1=((HT.sIx n n hi:Nat):Int)∧(sliceBounds lo hi none n).2.2=1:=by
 rw [PySem.W.kms_bounds]
 refine ⟨congrArg (fun k:Nat=>(k:Int)) ?_,congrArg (fun k:Nat=>(k:Int)) ?_,rfl⟩
 ·cases lo with
  | none=>rfl
  | some v=>exact sIx_w v n
 ·cases hi with
  | none=>rfl
  | some v=>exact sIx_w v n
theorem slicePick_cut (its:List Value) (lo hi:Option Int):slicePick its.toArray lo hi none=((its.drop (HT.sIx its.length 0 lo)).take (HT.sIx its.length its.length hi - HT.sIx its.length 0 lo)).toArray:=by
 obtain ⟨h1,h2,h3⟩:=slice_bounds lo hi its.toArray.size
 unfold slicePick
 rw [h1,h2,h3]
 simp only [sliceRange_one,pick_run,List.size_toArray] <;> rfl
noncomputable def rSlL (K:PySem.W.Frag):V→Option Int→Option Int→Hp→VK→Prop:=fun x lo hi H Q=>Ex_2_3 (fun a xs=>x=.ref a) (fun a xs=>SqL K H a xs) (fun a xs=>∀ p,H p=none→Q (.ref p) (upd H p (.lst (cutV xs lo hi))))
theorem sl_list:SlR X (rSlL X.K):=by
 intro pins s σ H x v vl vu lo hi sl Q I rx hs pl pu h
 obtain ⟨a,xs,rfl,hx,q⟩:=h
 cases rx
 obtain ⟨its,r,ht,hz⟩:=I.list hx
 have hlen:=r.length
 refine ⟨"list",_,slot_list_getitem.lookup,ht.isList.typeIs,?_⟩
 refine wpAny_getItem_list_slice ht.isList hs pl pu .none (by simp) ?_ (by rw [List.size_toArray] <;> lia)
 rw [slicePick_cut,← hlen]
 refine ⟨.ref s.heap.objs.size,_,I.laid (t':=s.toks) (o:=.lst (cutV xs lo hi)) (fun b ob q=>Heap.get?_push_of_some _ q) (Nat.le_refl _) ?_,rfl,q _ (I.hok.fresh (Nat.le_refl _))⟩
 exact ⟨Nat.le_trans (cutV_length xs lo hi) hz,_,0,(r.drop (HT.sIx xs.length 0 lo)).take (HT.sIx xs.length xs.length hi - HT.sIx xs.length 0 lo),Heap.get?_push_size _ rfl⟩
noncomputable def flatV:V→Bool
 | .non=>true
 | .bl _=>true
 | .int _=>true
 | .str _=>true
 | _=>false
noncomputable def eqV:V→V→Bool
 | .non,.non=>true
 | .bl a,.bl b=>a == b
 | .bl a,.int b=>(if a then 1 else 0) == b
 | .int a,.bl b=>a == (if b then 1 else 0)
 | .int a,.int b=>a == b
 | .str a,.str b=>a == b
 | _,_=>false
theorem eqAt_V {A:Around} {s:Shared} {y x:V} {u v:Value} (ry:RelV y u) (rx:RelV x v) (fy:flatV y=true) (fx:flatV x=true):SeqAt.EqAt A s u v (eqV y x):=by
 cases y with
 | non =>
  cases ry
  cases x with
  | non=>cases rx; exact SeqAt.EqAt.same _
  | bl b=>cases rx; exact SeqAt.EqAt.none_bool b
  | int b=>obtain ⟨t,rfl⟩:=rx; exact SeqAt.EqAt.none_int b t
  | str b=>obtain ⟨t,rfl⟩:=rx; exact SeqAt.EqAt.none_str b t
  | _=>exact absurd (show false=true from fx) Bool.false_ne_true
 | bl a =>
  cases ry
  cases x with
  | non=>cases rx; exact SeqAt.EqAt.bool_none a
  | bl b=>cases rx; exact SeqAt.EqAt.bool_bool a b
  | int b=>obtain ⟨t,rfl⟩:=rx; exact SeqAt.EqAt.bool_int a b t
  | str b=>obtain ⟨t,rfl⟩:=rx; exact SeqAt.EqAt.bool_str a b t
  | _=>exact absurd (show false=true from fx) Bool.false_ne_true
 | int a =>
  obtain ⟨t',rfl⟩:=ry
  cases x with
  | non=>cases rx; exact SeqAt.EqAt.int_none a t'
  | bl b=>cases rx; exact SeqAt.EqAt.int_bool a t' b
  | int b=>obtain ⟨t,rfl⟩:=rx; exact SeqAt.EqAt.int_int a t' b t
  | str b=>obtain ⟨t,rfl⟩:=rx; exact SeqAt.EqAt.int_str a t' b t
  | _=>exact absurd (show false=true from fx) Bool.false_ne_true
 | str a =>
  obtain ⟨t',rfl⟩:=ry
  cases x with
  | non=>cases rx; exact SeqAt.EqAt.str_none a t'
  | bl b=>cases rx; exact SeqAt.EqAt.str_bool a t' b
  | int b=>obtain ⟨t,rfl⟩:=rx; exact SeqAt.EqAt.str_int a t' b t
  | str b=>obtain ⟨t,rfl⟩:=rx; exact SeqAt.EqAt.str_str a t' b t
  | _=>exact absurd (show false=true from fx) Bool.false_ne_true
 | _=>exact absurd (show false=true from fy) Bool.false_ne_true
noncomputable def eqU (x:V) (u:Value):Bool:=match u with
 | .none=>eqV .non x
 | .bool b=>eqV (.bl b) x
 | .int i _=>eqV (.int i) x
 | .str z _=>eqV (.str z) x
 | _=>false
theorem eqU_of {x y:V} {u:Value} (r:RelV y u) (f:flatV y=true):eqU x u=eqV y x:=by
 cases y with
 | non=>cases r; rfl
 | bl b=>cases r; rfl
 | int i=>obtain ⟨t,rfl⟩:=r; rfl
 | str z=>obtain ⟨t,rfl⟩:=r; rfl
 | _=>exact absurd (show false=true from f) Bool.false_ne_true
theorem any_eqU {x:V} {xs:List V} {us:List Value} (h:Vals xs us) (f:xs.all flatV=true):us.any (eqU x)=xs.any fun y=>eqV y x:=by
 induction h with
 | nil=>rfl
 | cons r t ih =>
  rw [List.all_cons,Bool.and_eq_true] at f
  rw [List.any_cons,List.any_cons,eqU_of r f.1,ih f.2]
theorem mem_eqAt {A:Around} {s:Shared} {x:V} {v:Value} (rx:RelV x v) (fx:flatV x=true):∀ {xs:List V} {us:List Value},Vals xs us→xs.all flatV=true→∀ u∈us,SeqAt.EqAt A s u v (eqU x u)
 | _,_,.nil,_=>fun u hu=>by cases hu
 | y :: xs,u :: us,.cons r t,f=>fun u' hu=>by
  rw [List.all_cons,Bool.and_eq_true] at f
  rcases List.mem_cons.mp hu with rfl | hu
  ·rw [eqU_of r f.1]; exact eqAt_V r rx f.1 fx
  ·exact mem_eqAt rx fx t f.2 u' hu
noncomputable def inV (x:V) (xs:List V):Bool:=xs.any fun y=>eqV y x
noncomputable def rIn (K:PySem.W.Frag) (neg:Bool):R2:=fun x y H Q=>Ex_2_5 (fun p xs=>y=.ref p) (fun p xs=>(SqL K H p xs∨SqT K H p xs)) (fun p xs=>flatV x=true) (fun p xs=>xs.all flatV=true) (fun p xs=>Q (.bl (if neg then !inV x xs else inV x xs)) H)
theorem op_in_seq:OpR X (compareOp .In) (rIn X.K false):=by
 intro pins s σ H x y v u Q I rx ry h
 obtain ⟨p,xs,rfl,hq,fx,fs,q⟩:=h
 cases ry
 rcases hq with hq | hq
 ·obtain ⟨its,r,pl,hz⟩:=I.list hq
  refine SeqAt.in_listAt (eqU x) pl.isList (fun w hw=>mem_eqAt rx fx r fs w (by simpa using hw)) ⟨.bl _,H,I,rfl,?_⟩
  rw [show its.toArray.any (eqU x)=its.any (eqU x) by simp,any_eqU r fs]
  exact q
 ·obtain ⟨its,r,pl,hz⟩:=I.tuple hq
  refine SeqAt.in_tupleAt (eqU x) pl (fun w hw=>mem_eqAt rx fx r fs w (by simpa using hw)) ⟨.bl _,H,I,rfl,?_⟩
  rw [show its.toArray.any (eqU x)=its.any (eqU x) by simp,any_eqU r fs]
  exact q
theorem op_notIn_str:OpR X (compareOp .NotIn) (fun x y H Q=>Ex_2_3 (fun i j=>x=.str i) (fun i j=>y=.str j) (fun i j=>Q (.bl (!(!(Builtin.Str.occurrences j i 0 j.length 1).isEmpty))) H)):=by
 intro pins s σ H x y v u Q I rx ry h
 obtain ⟨i,j,rfl,rfl,q⟩:=h
 obtain ⟨t,rfl⟩:=rx
 obtain ⟨t',rfl⟩:=ry
 exact notIn_str ⟨.bl _,H,I,rfl,q⟩
theorem call_len_seq:CallR X (.builtin "len") (fun xs H Q=>Ex_2_3 (fun p ys=>xs=[.ref p]) (fun p ys=>(SqL X.K H p ys∨SqT X.K H p ys)) (fun p ys=>Q (.int ys.length) H)):=by
 intro pins s σ H xs us Q I r h
 obtain ⟨p,ys,rfl,hq,q⟩:=h
 obtain ⟨u,rfl,rx⟩:=vals1 r
 cases rx
 have hn:=line63
 rcases hq with hq | hq
 ·obtain ⟨its,r',pl,hz⟩:=I.list hq
  have hlen:=r'.length
  exact Calls.call_len_list pl.isList (by simp only [List.size_toArray] <;> lia) ⟨.int ys.length,H,I.tok _,⟨s.toks + 1,by rw [List.size_toArray,hlen]⟩,q⟩
 ·obtain ⟨its,r',pl,hz⟩:=I.tuple hq
  have hlen:=r'.length
  exact len_tuple pl (by simp only [List.size_toArray] <;> lia) ⟨.int ys.length,H,I.tok _,⟨s.toks + 1,by rw [List.size_toArray,hlen]⟩,q⟩
theorem call_len_str:CallR X (.builtin "len") (fun xs H Q=>∃ z,xs=[.str z]∧z.length≤sizeLine∧Q (.int z.length) H):=by
 intro pins s σ H xs us Q I r h
 obtain ⟨z,rfl,hz,q⟩:=h
 obtain ⟨u,rfl,t,rfl⟩:=vals1 r
 have hn:=line63
 exact len_str (by lia) ⟨.int z.length,H,I.tok _,⟨_,rfl⟩,q⟩
theorem CallR.or {f:Value} {r r':List V→Hp→VK→Prop} (h:CallR X f r) (h':CallR X f r'):CallR X f (fun xs H Q=>r xs H Q∨r' xs H Q):=by
 intro pins s σ H xs us Q I rs q
 rcases q with q | q
 ·exact h pins s σ H xs us Q I rs q
 ·exact h' pins s σ H xs us Q I rs q
theorem call_list_of:CallR X (.type "list") (fun xs H Q=>Ex_2_3 (fun p ys=>xs=[.ref p]) (fun p ys=>(SqL X.K H p ys∨SqT X.K H p ys)) (fun p ys=>∀ l,H l=none→Q (.ref l) (upd H l (.lst ys)))):=by
 intro pins s σ H xs us Q I r h
 obtain ⟨p,ys,rfl,hq,q⟩:=h
 obtain ⟨u,rfl,rx⟩:=vals1 r
 cases rx
 have fin:∀ (its:List Value),Vals ys its→ys.length≤sizeLine→∀ (h':Heap) (c':Nat),(∀ b o',s.heap.get? b=some o'→h'.get? b=some o') →
   h'.get? s.heap.objs.size=some { cls:=.type "list",dict:=none,data:=.seq its.toArray c',slots:=#[] }→EP X pins σ Q (.ref s.heap.objs.size) { s with heap:=h' }:=fun its r' hz h' c' kp e =>
  ⟨.ref s.heap.objs.size,_,I.laid (t':=s.toks) kp (Nat.le_refl _) (show ObjOk X.prog X.w _ h' _ (.lst ys) from ⟨hz,its,c',r',e⟩),rfl,q _ (I.hok.fresh (Nat.le_refl _))⟩
 rcases hq with hq | hq
 ·obtain ⟨its,r',pl,hz⟩:=I.list hq
  have hlen:=r'.length
  obtain ⟨o,ho,hc,n,hd⟩:=pl.isList
  exact call_list_seq p (.inl rfl) ho hc hd (fun h' c' kp e=>fin its r' hz h' c' kp e) (by simp only [List.size_toArray] <;> lia)
 ·obtain ⟨its,r',pl,hz⟩:=I.tuple hq
  have hlen:=r'.length
  obtain ⟨o,ho,hc,n,hd⟩:=pl
  exact call_list_seq p (.inr rfl) ho hc hd (fun h' c' kp e=>fin its r' hz h' c' kp e) (by simp only [List.size_toArray] <;> lia)
theorem call_tuple_of:CallR X (.type "tuple") (fun xs H Q=>Ex_2_2 (fun p ys=>xs=[.ref p]) (fun p ys=>((SqL X.K H p ys∧∀ l,H l=none→Q (.ref l) (upd H l (.tup ys)))∨(SqT X.K H p ys∧Q (.ref p) H)))):=by
 intro pins s σ H xs us Q I r h
 obtain ⟨p,ys,rfl,h⟩:=h
 obtain ⟨u,rfl,rx⟩:=vals1 r
 cases rx
 rcases h with ⟨hq,q⟩ | ⟨hq,q⟩
 ·obtain ⟨its,r',pl,hz⟩:=I.list hq
  have hlen:=r'.length
  refine call_tuple_list pl.isList (fun h' kp=>?_) (by simp only [List.size_toArray] <;> lia)
  have I1:Inv X pins σ H { s with heap:=h' }:=I.kept (t':=s.toks) kp
  have I2:Inv X pins σ (upd H h'.objs.size (.tup ys)) { s with heap:=h'.push { cls:=.type "tuple",data:=.seq its.toArray } } :=
   I1.laid (t':=s.toks) (fun b o e=>Heap.get?_push_of_some _ e) (Nat.le_refl _) (show ObjOk X.prog X.w _ _ _ (.tup ys) from ⟨hz,its,r',IsTup.new _ _⟩)
  exact ⟨.ref h'.objs.size,_,I2,rfl,q _ (I1.hok.fresh (Nat.le_refl _))⟩
 ·obtain ⟨its,r',pl,hz⟩:=I.tuple hq
  exact call_tuple_same pl ⟨.ref p,H,I,rfl,q⟩
noncomputable def tyV (K:PySem.W.Frag) (T:String) (x:V) (H:Hp):Prop:=match x with
 | .str _=>T="str"
 | .int _=>T="int"
 | .ref p=>(T="list"∧∃ xs,SqL K H p xs)∨(T="tuple"∧∃ o,K.lookup p=some o∧o.cls=.type "tuple"∧o.dict=none) ∨
   (T="dict"∧((∃ kvs,H p=some (.dK kvs))∨∃ kvs,H p=some (.dT kvs)))∨(T="set"∧Ex_2_1 (fun S n=>H p=some (.set S n)))
 | _=>False
theorem tyV_is {pins:List (Addr×Obj)} {σ:St} {H:Hp} {s:Shared} {T:String} {x:V} {v:Value} (I:Inv X pins σ H s) (r:RelV x v) (ty:tyV X.K T x H) :
  s.TypeIs v T∧∀ a,v=.ref a→∃ ob,s.heap.get? a=some ob∧ob.dict=none:=by
 cases x with
 | str z =>
  obtain ⟨t,rfl⟩:=r
  cases (show T="str" from ty)
  exact ⟨typeIs_str s z t,fun _ e=>nomatch e⟩
 | int i =>
  obtain ⟨t,rfl⟩:=r
  cases (show T="int" from ty)
  exact ⟨typeIs_int s i t,fun _ e=>nomatch e⟩
 | ref p =>
  cases r
  rcases ty with ⟨rfl,xs,hq⟩ | ⟨rfl,o,hk,hc,hd⟩ | ⟨rfl,hk⟩ | ⟨rfl,S,n,hk⟩
  ·obtain ⟨its,_,pl,_⟩:=I.list hq
   refine ⟨pl.isList.typeIs,fun a e=>?_⟩
   cases e
   obtain ⟨o,n,e,c,hd,_⟩:=pl
   exact ⟨o,e,hd⟩
  ·refine ⟨⟨o,I.kIn p o hk,hc⟩,fun a e=>?_⟩
   cases e
   exact ⟨o,I.kIn _ o hk,hd⟩
  ·have z:∃ o,s.heap.get? p=some o∧o.ExactDict:=by
    rcases hk with ⟨kvs,hk⟩ | ⟨kvs,hk⟩
    ·obtain ⟨_,_,_,_,o,_,_,e,ex,_⟩:=I.hok p _ hk
     exact ⟨o,e,ex⟩
    ·obtain ⟨_,_,_,_,o,_,_,e,ex,_⟩:=I.hok p _ hk
     exact ⟨o,e,ex⟩
   obtain ⟨o,e,ex⟩:=z
   refine ⟨⟨o,e,ex.1⟩,fun a e2=>?_⟩
   cases e2
   exact ⟨o,e,ex.2.1⟩
  ·obtain ⟨o,_,_,_,e,ex,_⟩:=I.hok p _ hk
   refine ⟨⟨o,e,ex.1⟩,fun a e2=>?_⟩
   cases e2
   exact ⟨o,e,ex.2.1⟩
 | _=>exact False.elim ty
noncomputable def tBM (K:PySem.W.Frag) (T:String) (r:V→List V→Hp→VK→Prop) (to:TE) (t:TA):TE:=fun σ H Q=>to σ H fun x H1=>tyV K T x H1∧t σ H1 fun xs H2=>r x xs H2 Q
variable {o e:Expr} {es:List Expr} {to:TE} {t:TA} {name:Str} {apos cpos:Pos} {T id:String} {r:V→List V→Hp→VK→Prop}
theorem pe_bm (pa:PlainAttrs T) (slot:Slot T name id) (hty:typeOf (.builtin id)=pure (.type "method_descriptor")) (hm:MtR X id r) (ho:PE X o to) (ha:PA X (e :: es) t)
  (hbase:attributeBase o name X.env (eval o X.env)=eval o X.env:=by rfl)
  (hfew:((backTo cpos (starEach (e :: es) X.env)).all (fun x=>!x.1) && (backToKw cpos (keywordEach [] X.env)).all (fun x=>x.1.isSome)
   && decide ((e :: es).length + ([]:List Keyword).length + (if ([]:List Keyword).isEmpty then 0 else 1) < 30))=true:=by rfl)
  (hline:(apos.endLine == cpos.line)=true:=by rfl) (hs:starEach (e :: es) X.env=(false,eval e X.env) :: starEach es X.env:=by rfl) (hplain:(backTo cpos (starEach es X.env)).any (·.1)=false:=by rfl) :
  PE X (.Call (.Attribute o name apos) (e :: es) [] cpos) (tBM X.K T r to t):=by
 intro pins s σ H Q I h
 refine wpAny_Call_method_late hbase hfew hline rfl (thnE (ho pins s σ H _ I h) fun v s1 x H1 I1 r1 qz22=>?_)
 obtain ⟨ty,q1⟩:=qz22
 obtain ⟨h1,h2⟩:=tyV_is I1 r1 ty
 refine ⟨T,id,pa,slot,hty,h1,h2,?_⟩
 have hA:=ha cpos pins s1 σ H1 _ I1 q1
 rw [hs] at hA ⊢
 refine Calls.callWith_builtin (by show (false || (backTo cpos (starEach es X.env)).any (·.1))=false; rw [hplain] <;> rfl) (Calls.evalArgs_plain ?_)
 exact thn hA fun us s2 ⟨vs,H2,I2,r2,q2⟩=>hm pins s2 σ H2 x vs v us Q I2 r1 r2 q2
end
end L2
namespace L2
open PySem PySem.Spec PyProof.Rows
noncomputable def MtM (X:Cx) (id:String) (r:V→List V→Hp→VK→Prop):Prop :=
 ∀ (pins:List (Addr×Obj)) (s:Shared) (σ:St) (H:Hp) (x:V) (xs:List V) (v:Value) (us:List Value) (Q:VK),Inv X pins σ H s→RelV x v→Vals xs us→r x xs H Q →
  wpAny (model X.prog X.w) X.A (call (.builtin id) (v :: us)) (EP X pins σ Q) X.xe s
theorem Vals.one {x:V} {us:List Value} (h:Vals [x] us):∃ u,us=[u]∧RelV x u:=by
 cases h with
 | cons r t=>cases t with
  | nil=>exact ⟨_,rfl,r⟩
theorem Vals.two {x y:V} {us:List Value} (h:Vals [x,y] us):Ex_2_3 (fun u v=>us=[u,v]) (fun u v=>RelV x u) (fun u v=>RelV y v):=by
 cases h with
 | cons r t=>cases t with
  | cons q t=>cases t with
   | nil=>exact ⟨_,_,rfl,r,q⟩
theorem Vals.zero:∀ {us:List Value},Vals [] us→us=[]
 | _,.nil=>rfl
section
variable {X:Cx} {pins:List (Addr×Obj)} {σ:St} {H:Hp} {s:Shared} {l b:Addr} {xs ys zs:List V}
theorem Inv.lset {its its':List Value} {n:Nat} {f:Array Value→Array Value} {t':Nat} (I:Inv X pins σ H s) (hH:H l=some (.lst xs))
  (e:s.heap.get? l=some { cls:=.type "list",data:=.seq its.toArray n }) (hf:f its.toArray=its'.toArray) (hv:Vals ys its') (hz:ys.length≤sizeLine) :
  Inv X pins σ (upd H l (.lst ys)) { s with heap:=s.heap.update l (Obj.mapSeq f),toks:=t' }:=by
 have q:=PySem.IsL.update e f
 rw [hf] at q
 refine I.write (x:=l) (e:=l) (by rw [hH]; exact trivial) (.inl rfl) (fun b' u hb hu=>(Heap.get?_update_other s.heap (Obj.mapSeq f) (Ne.symm hb)).trans hu) ⟨_,q⟩ ?_
 exact ⟨hz,its',_,hv,q⟩
theorem Inv.lnew {its:List Value} {t':Nat} (I:Inv X pins σ H s) (hv:Vals ys its) (hz:ys.length≤sizeLine) :
  Inv X pins σ (upd H s.heap.objs.size (.lst ys)) { s with heap:=s.heap.push { cls:=.type "list",data:=.seq its.toArray },toks:=t' } :=
 I.laid (fun _ _ q=>Heap.get?_push_of_some _ q) (Nat.le_refl _) ⟨hz,its,0,hv,Heap.get?_push_size _ rfl⟩
theorem Inv.fresh (I:Inv X pins σ H s):H s.heap.objs.size=none:=I.hok.fresh (Nat.le_refl _)
theorem Inv.lstM (I:Inv X pins σ H s) (hH:H l=some (.lst xs)):xs.length≤sizeLine∧Ex_2_3 (fun (its:List Value) (n:Nat)=>Vals xs its) (fun its n=>xs.length=its.length) (fun its n=>s.heap.get? l=some { cls:=.type "list",data:=.seq its.toArray n }):=by
 obtain ⟨z,its,n,r,e⟩:=I.hok l _ hH
 exact ⟨z,its,n,r,r.length,e⟩
end
section
variable {X:Cx}
noncomputable def rAppend:V→List V→Hp→VK→Prop:=fun x vs H Q=>Ex_3_5 (fun l xs y=>x=.ref l) (fun l xs y=>vs=[y]) (fun l xs y=>H l=some (.lst xs)) (fun l xs y=>xs.length < sizeLine) (fun l xs y=>Q .non (upd H l (.lst (xs ++ [y]))))
theorem mt_append:MtM X "list.append" rAppend:=by
 intro pins s σ H x vs v us Q I rx rv h
 obtain ⟨l,xs,y,rfl,rfl,hH,hz,q⟩:=h
 cases rx
 obtain ⟨u,rfl,ru⟩:=rv.one
 obtain ⟨z,its,n,r,hl,e⟩:=I.lstM hH
 refine call_meets F.slot_list_append ⟨_,e,rfl⟩ F.entry_list_append (F.args_list_append_2 _ _) (PySem.list_append l its.toArray n u (by rw [List.size_toArray]; lia)) ⟨e,?_⟩
 refine ⟨.non,_,I.lset (its':=its ++ [u]) hH e (by simp) (r.append (.cons ru .nil)) ?_,rfl,q⟩
 rw [List.length_append,List.length_singleton]
 lia
noncomputable def rCat:R2:=fun x y H Q=>Ex_4_6 (fun l b xs zs=>x=.ref l) (fun l b xs zs=>y=.ref b) (fun l b xs zs=>H l=some (.lst xs)) (fun l b xs zs=>H b=some (.lst zs)) (fun l b xs zs=>xs.length + zs.length≤sizeLine) (fun l b xs zs=>∀ p,H p=none→Q (.ref p) (upd H p (.lst (xs ++ zs))))
theorem op_cat:OpR X (binaryOp .Add) rCat:=by
 intro pins s σ H x y v u Q I rx ry h
 obtain ⟨l,b,xs,zs,rfl,rfl,hH,hB,hz,q⟩:=h
 cases rx
 cases ry
 obtain ⟨z,its,n,r,hl,e⟩:=I.lstM hH
 obtain ⟨z2,its2,n2,r2,hl2,e2⟩:=I.lstM hB
 refine PySem.P.add_list e e2 ?_ (by rw [List.size_toArray,List.size_toArray]; lia)
 have ea:its.toArray ++ its2.toArray=(its ++ its2).toArray:=by simp
 rw [ea]
 exact ⟨.ref _,_,I.lnew (t':=s.toks) (r.append r2) (by rw [List.length_append]; lia),rfl,q _ I.fresh⟩
end
section
variable {prog:Program} {w:World} {A:Around} {E:Value→Shared→Prop} {s:Shared}
set_option maxRecDepth 100000 in
end
section
variable {X:Cx}
end
end L2
namespace Att
open PySem PySem.W PySem.Calls PyProof.Rows
theorem ints_of_wellAll {P:Params} {h:Heap}:∀ (ns:List Int) (vs:List Value),WellAll P h vs (ns.map WData.int)→IntsAre vs ns:=by
 intro ns
 induction ns with
 | nil =>
  intro vs w
  rw [List.map_nil] at w
  cases w
  exact .nil
 | cons n ns ih =>
  intro vs w
  rw [List.map_cons] at w
  cases w with
  | cons a b =>
   cases a
   exact .cons _ _ (ih _ b)
theorem script_of {l:OpenLaw} {n:Nat} (hn:l.most=some n) {P:Params} {h:Heap} {args:List WData} {vals:List Value}
  (hpre:l.row.toRowW.claim.pre args=true) (hwl:WellAll P h vals args) :
  Ex_3_5 (fun a vs ns=>vals=[Value.ref a]) (fun a vs ns=>args=[WData.list (ns.map WData.int)]) (fun a vs ns=>h.get? a=some { cls:=.type "list",data:=.seq vs.toArray }) (fun a vs ns=>IntsAre vs ns) (fun a vs ns=>ns.length≤n):=by
 have hsh:WShape.hasAll [] args [.list .int]=true:=(pre_splitW hpre).1
 have hc:l.pre.holds [] { args:=args }=true:=(pre_splitW hpre).2
 obtain ⟨d,r,rfl,h1,h2⟩:=hasAllW_cons hsh
 obtain rfl:=hasAllW_nil h2
 obtain ⟨xs,rfl,h3⟩:=hasW_list h1
 obtain ⟨ns,rfl⟩:=items_int h3
 have hlen:ns.length≤n:=by
  unfold OpenLaw.pre at hc
  have h4:(WTm.not (.lt (.lit (.int (n:Int))) (.len (.arg 0)))).holds [] { args:=[.list (ns.map .int)] }=true:=by
   have h4:=(holds_andW hc).1
   rw [hn] at h4
   exact h4
  have h5:=condW_of h4 (w_not (w_lt w_lit (w_len_list (w_arg rfl))))
  rw [List.length_map] at h5
  refine Nat.le_of_not_lt fun q=>?_
  have q':(n:Int) < ((ns.length:Nat):Int):=by lia
  first
   | (rw [decide_eq_true q'] at h5; exact absurd h5 (by decide))
   | (simp at h5; lia)
 cases hwl with
 | cons w1 w2 =>
  cases w2
  cases w1 with
  | list ho hall=>exact ⟨_,_,ns,rfl,rfl,ho,ints_of_wellAll ns _ hall,hlen⟩
theorem post_true (l:OpenLaw) (args:List WData):l.row.toRowW.claim.post args (.bool true) args=true :=
 postW_of (r:=l.row.toRowW) (X:=(true == true))
  (show WShape.has [] (.bool true) .bool=true by first | rfl | decide | simp [WShape.has,WShape.arms,WShape.armsAll])
  (show (WTm.eq .res (.lit (.bool true))).value [] { args:=args,res:=some (.bool true),after:=args }=some (.bool (true == true)) from w_eq_bool (w_res rfl) w_lit) rfl
theorem attach_call {l:OpenLaw} {n:Nat} {q:Program} {loose:List Str} {XP:(Str→Option Value)→Heap→Prop} {YP:World→Heap→Prop} {d:DefRec}
  (hn:l.most=some n) (hdf:d.params.defaults=[])
  (call:∀ (w:World) (s₀ s₁:Shared) (mg mb:Str→Option Value) (fa:Addr) (o:Obj) (pm cd doc:Value) (a:Addr) (vs:List Value) (ns:List Int),
   Ground q loose [] XP w s₀ mg mb s₁.heap→YP w s₁.heap →
   s₁.heap.get? fa=some o→o.data=.func (docDef d.name d.params d.body d.scope pm cd doc)→s₁.heap.CodeRec cd d.name→mg d.name=some (.ref fa) →
   s₁.heap.get? a=some { cls:=.type "list",data:=.seq vs.toArray }→IntsAre vs ns→ns.length≤n→s₁.gens=#[] →
   codeAny (model l.prog w) callerA (.call (.ref fa) ⟨[.ref a],[]⟩) (fun r s'=>r=.ok (.ret (.bool true))∧OldK s₁.heap s'.heap∧s'.os=s₁.os∧AllBare s'.gens) s₁) :
  WalkO q loose XP YP l.row.toRowW d [] (fun f vs=>PySem.call f vs):=by
 intro w s₀ s₁ mg mb G Y fa o pm cd doc dV kV ho hd hcd hD hmg hg args vals as hpre hlay hrd hwl hlo
 obtain rfl:dV=.none:=Dflts.none hD hdf
 obtain rfl:kV=.none:=Dflts.noKw hD
 obtain ⟨a,vs,ns,rfl,rfl,hobj,hints,hlen⟩:=script_of hn hpre hwl
 refine enter_call (codeAny_mono (call w s₀ s₁ mg mb fa o pm cd doc a vs ns G Y ho (fd_plain hd) hcd hmg hobj hints hlen hg) fun r s' hq=>?_)
 obtain ⟨rfl,h2,h3,h4⟩:=hq
 exact ⟨.inl ⟨.bool true,.bool true,[],rfl,fun _=>rfl,.bool true,post_true l _,fun _=>⟨List.Pairwise.nil,fun _ hm=>(nomatch hm)⟩⟩,h2,h3,h4⟩
section
variable {prog:Program} {w:World} {A:Around} {E:Value→Shared→Prop} {s:Shared} {K:Frag}
noncomputable def ledger (h:Heap) (L d:Addr):List (Addr×Obj):=(List.range h.objs.size).filterMap fun a=>if a=L∨a=d then none else (h.get? a).map fun o=>(a,o)
end
end Att
namespace L2
open PySem PySem.Spec PyProof.Rows
theorem vals_ints {vs:List Value} {ns:List Int} (h:IntsAre vs ns):Vals (ns.map V.int) vs:=by
 induction h with
 | nil=>exact .nil
 | cons n t h ih=>exact .cons ⟨t,rfl⟩ ih
noncomputable def Only (H:Hp):Prop:=∀ b,H b=none∨Ex_2_1 (fun o xs=>H b=some (.frz o (.lst xs)))
theorem law_call {P:Program} {w:World} {K:PySem.W.Frag} {mg mb:Str→Option Value} {CX:CXT} {k:Nat} {fa a:Addr} {fd:FuncData} {x:Str} {sp:Sp} {s₁:Shared} {vs:List Value} {ns:List Int}
  (KX:K.In s₁.heap) (hns:s₁.heap.Ns mainGlobals mg) (hb:s₁.heap.Ns builtinsNs mb) (hbb:∀ x:Str,x≠"__name__"→mb x=bootBuiltins x) (hlim:s₁.heap.NoLimit) (hg:s₁.gens=#[])
  (ha:s₁.heap.get? a=some { cls:=.type "list",data:=.seq vs.toArray }) (hi:IntsAre vs ns) (hl:ns.length≤sizeLine) (hr:Room k callerA)
  (F:∀ base:Heap,K.In base→base.Ns mainGlobals mg→FnOk P w K mg base CX k fa fd [x] sp) (hbind:∀ (s:Shared) (u:Value),BindsTo s fd ⟨[u],[]⟩ [(x,u)])
  (hsp:∀ H:Hp,Only H→SqL K H a (ns.map V.int)→sp [.ref a] H (fun v _=>v=.bl true) fun _ _ _=>False)
  (hCX:∀ H e s',CX [] H s₁ (fun _ _ _=>False) e s'→False) :
  codeAny (model P w) callerA (.call (.ref fa) ⟨[.ref a],[]⟩) (fun r s'=>r=.ok (.ret (.bool true))∧OldK s₁.heap s'.heap∧s'.os=s₁.os∧AllBare s'.gens) s₁:=by
 have rv:=vals_ints hi
 have lenV:=hi.length
 have core:∀ H:Hp,Only H→SqL K H a (ns.map V.int)→HOk P w H s₁.heap→(∀ b,H b≠none→b=a)→(H a≠none→K.lookup a=none) →
   codeAny (model P w) callerA (.call (.ref fa) ⟨[.ref a],[]⟩) (fun r s'=>r=.ok (.ret (.bool true))∧OldK s₁.heap s'.heap∧s'.os=s₁.os∧AllBare s'.gens) s₁:=by
  intro H hO hS hok hA hK
  have base_of:∀ {b:Addr} {o:Obj},s₁.heap.get? b=some o→H b=none→(hidT s₁.heap H).get? b=some o:=fun e n=>hidT_get e n
  have noA:∀ {b:Addr} {o:Obj} {es:Array DictEntry} {ep:Nat},s₁.heap.get? b=some o→o.data=.dict es ep→H b=none:=fun {b o es ep} e d=>by
   cases q:H b with
   | none=>rfl
   | some u =>
    have e':b=a:=hA b (by rw [q]; simp)
    subst e'
    rw [ha] at e; cases e
    have d':Data.seq vs.toArray _=Data.dict es ep:=d
    cases d'
  have nsK:∀ {b:Addr} {m:Str→Option Value},s₁.heap.Ns b m→(hidT s₁.heap H).Ns b m:=fun {b m} ⟨o,es,ep,e,d,r⟩=>⟨o,es,ep,base_of e (noA e d),d,r⟩
  have hKb:K.In (hidT s₁.heap H):=fun b o e=>base_of (KX b o e) (by
   cases q:H b with
   | none=>rfl
   | some u =>
    have e':b=a:=hA b (by rw [q]; simp)
    subst e'
    rw [hK (by rw [q]; simp)] at e; cases e)
  have hM:Mod K mg (hidT s₁.heap H):=⟨hKb,nsK hns,⟨mb,nsK hb,hbb⟩,let ⟨mc,h1,h2⟩:=hlim; ⟨mc,nsK h1,h2⟩⟩
  have e0:Env0 P w K mg (hidT s₁.heap H) callerA [] s₁ H:=⟨rfl,hM,fun b o e=>of_hidT e,Nat.le_of_eq (hidT_size _ _),trivial,fun b hb=>absurd (show b∈([]:List Addr) from hb) (by simp),hok,.of_eq hg⟩
  refine codeAny_mono ((F _ hKb (nsK hns)).run callerA [] s₁ H ⟨[.ref a],[]⟩ [.ref a] [.ref a] _ _ hr e0 (hbind s₁ (.ref a)) (.cons rfl .nil) (hsp H hO hS)) fun r s' h=>?_
  cases r with
  | error e=>exact (hCX H e s' h).elim
  | ok fl =>
   cases fl with
   | next=>exact False.elim h
   | brk=>exact False.elim h
   | cont=>exact False.elim h
   | ret u =>
    obtain ⟨v,H',os,bare,un,hok',r',q⟩:=h
    have q':v=.bl true:=q
    subst q'
    obtain rfl:u=Value.bool true:=r'
    refine ⟨rfl,OldK.of_keep fun b o e=>?_,os,bare⟩
    cases q:H b with
    | none=>exact un.keep b o e q (by intro z; exact absurd (show b∈([]:List Addr) from z) (by simp)) (by simp)
    | some u =>
     rcases hO b with z | ⟨ob,xs,z⟩
     ·rw [q] at z; cases z
     ·have z2:=un.frzs b ob _ z
      obtain ⟨e1,_⟩:=hok b _ z
      obtain ⟨e2,_⟩:=hok' b _ z2
      rw [e] at e1; cases e1
      exact e2
 cases hk:K.lookup a with
 | some o =>
  have e:=KX a o hk
  rw [ha] at e
  cases e
  refine core (fun _=>none) (fun _=>.inl rfl) (.inr ⟨_,vs.toArray,_,hk,rfl,rfl,rfl,by rw [List.size_toArray,lenV]; exact hl,by simpa using rv⟩) (fun b u z=>by have z':(none:Option HO)=some u:=z; cases z') (fun b z=>absurd rfl z) fun z=>absurd rfl z
 | none =>
  refine core (fun b=>if b=a then some (.frz { cls:=.type "list",data:=.seq vs.toArray } (.lst (ns.map V.int))) else none) (fun b=>?_) (.inl (.inr ⟨{ cls:=.type "list",data:=.seq vs.toArray },if_pos rfl⟩)) (fun b u z=>?_) (fun b z=>?_) fun _=>hk
  ·by_cases hb:b=a
   ·exact .inr ⟨_,_,if_pos hb⟩
   ·exact .inl (if_neg hb)
  ·by_cases hb:b=a
   ·have z':=(if_pos hb).symm.trans z
    cases z'
    subst hb
    exact ⟨ha,by rw [List.length_map]; exact hl,vs,_,rv,ha⟩
   ·have z':=(if_neg hb).symm.trans z
    cases z'
  ·by_cases hb:b=a
   ·exact hb
   ·exact absurd (if_neg hb) z
end L2
namespace L2
open PySem PySem.Spec PyProof.Rows
noncomputable abbrev KOf {K:PySem.W.Frag} {h:Heap} (_:K.In h):PySem.W.Frag:=K
theorem walk_of {l:PySem.W.OpenLaw} {n k:Nat} {q:Program} {loose:List Str} {XP:(Str→Option Value)→Heap→Prop} {YP:World→Heap→Prop} {d:DefRec} {K:Params→PySem.W.Frag} {CX:World→CXT} {sp:World→Sp} {x:Str}
  (hn:l.most=some n) (hn2:n≤sizeLine) (hdf:d.params.defaults=[]) (hr:Room k callerA)
  (hY:∀ (w:World) (h:Heap),YP w h→(K w.params).In h)
  (F:∀ (w:World) (mg:Str→Option Value) (fa:Addr) (h:Heap),(K w.params).In h→h.Ns mainGlobals mg→mg d.name=some (.ref fa) →
   ∃ fd:FuncData,(∀ (s:Shared) (u:Value),BindsTo s fd ⟨[u],[]⟩ [(x,u)]) ∧
    ∀ base:Heap,(K w.params).In base→base.Ns mainGlobals mg→FnOk l.prog w (K w.params) mg base (CX w) k fa fd [x] (sp w))
  (hsp:∀ (w:World) (H:Hp) (a:Addr) (ns:List Int),ns.length≤n→Only H→SqL (K w.params) H a (ns.map V.int)→sp w [.ref a] H (fun v _=>v=.bl true) fun _ _ _=>False)
  (hCX:∀ (w:World) (H:Hp) (s:Shared) (e:Value) (s':Shared),CX w [] H s (fun _ _ _=>False) e s'→False) :
  PySem.W.WalkO q loose XP YP l.row.toRowW d [] (fun f vs=>PySem.call f vs):=by
 refine Att.attach_call hn hdf fun w s₀ s₁ mg mb fa o pm cd doc a vs ns G Y ho hd hcd hmg hobj hints hlen hg=>?_
 have KX:=hY w _ Y
 obtain ⟨fd,hb,hF⟩:=F w mg fa _ KX G.T.g hmg
 exact law_call KX G.T.g G.T.b G.T.builtins G.T.nolimit hg hobj hints (Nat.le_trans hlen hn2) hr hF hb (fun H hO hS=>hsp w H a ns hlen hO hS) fun H e s'=>hCX w H s₁ e s'
end L2
namespace L2
open PySem PySem.Spec PyProof.Rows
noncomputable def inClass (s:Stmt) (j:Nat):Stmt:=match s with
 | .ClassDef _ _ _ body _ _ _ _ _ _ _=>body.getD j (.Pass ⟨0,0,0,0⟩)
 | _=>.Pass ⟨0,0,0,0⟩
noncomputable def defArgs (s:Stmt):Arguments:=match s with
 | .FunctionDef _ a _ _ _ _ _ _ _ _=>a
 | _=>{ posonlyargs:=[],args:=[],vararg:=none,kwonlyargs:=[],kw_defaults:=[],kwarg:=none,defaults:=[] }
noncomputable def defBody (s:Stmt):List Stmt:=match s with
 | .FunctionDef _ _ b _ _ _ _ _ _ _=>b
 | _=>[]
noncomputable def defScope (s:Stmt):Scope:=match s with
 | .FunctionDef _ _ _ _ _ _ sc _ _ _=>sc
 | _=>{ kind:=.function,names:=[],isGenerator:=false,isCoroutine:=false }
noncomputable abbrev CX0:CXT:=fun _ _ _ _ _ _=>False
noncomputable abbrev E0:XK:=fun _ _ _=>False
theorem pass0 {X:Cx}:Passes CX0 X E0:=fun _ _ _ _ _ _ _ h=>h.elim
structure Fun (K:PySem.W.Frag) (x qual:Str) (st:Stmt) (f:Addr) (fd:FuncData):Prop where
 ex:∃ (oc:Value) (od:Option Addr) (kV doc pm:Value) (an:Option Addr) (cdv ct:Value) (osl:Array (Option Value)),
  fd=PySem.W.fnOf x qual (defArgs st) (defBody st) (defScope st) .none kV doc pm an cdv ct∧K.lookup f=some ⟨oc,od,.func fd,osl⟩∧PySem.W.codeIn K cdv qual=true
 kp:PySem.W.keepIn K (.ref f)=true
section
variable {P:Program} {w:World} {K:PySem.W.Frag} {mg:Str→Option Value} {base:Heap}
theorem Fun.ok {x qual:Str} {st:Stmt} {f:Addr} {fd:FuncData} {N ps:List Str} {k:Nat} {sp:Sp} (F:Fun K x qual st f fd) (S:FnScope N ps (defScope st)) (len:∀ vs H Q E,sp vs H Q E→vs.length=ps.length)
  (hbody:∀ (cdv:Value) (A:Around) (outer:List Env) (s:Shared) (H:Hp) (vs:List V) (Q:VK) (E:XK),Room k (A.deeper (envOfC qual (defScope st) s.heap.objs.size f cdv))→sp vs H Q E →
   ∃ t,PSs (cxOf CX0 P w K mg base N qual (defScope st) f cdv A outer s H E).nox (defBody st) t∧t { nx:=fun _ H'=>Q .non H',rt:=Q } (start N vs) H):FnOk P w K mg base CX0 (k + 1) f fd ps sp:=by
 obtain ⟨oc,od,kV,doc,pm,an,cdv,ct,osl,rfl,lk,hcd⟩:=F.ex
 refine fn_of lk hcd S len fun A outer s H vs Q E hr hsp=>?_
 obtain ⟨t,h,q⟩:=hbody cdv A outer s H vs Q E hr hsp
 exact ⟨t,h.nox,q⟩
theorem Fun.binds {x qual:Str} {st:Stmt} {f:Addr} {fd:FuncData} {ps:List Str} (F:Fun K x qual st f fd)
  (h:∀ (kV doc pm:Value) (an:Option Addr) (cdv ct:Value) (us:List Value),us.length=ps.length→bindArgs (PySem.W.fnOf x qual (defArgs st) (defBody st) (defScope st) .none kV doc pm an cdv ct) ⟨us,[]⟩=pure (ps.zip us)):Binds K fd ps []:=by
 obtain ⟨oc,od,kV,doc,pm,an,cdv,ct,osl,rfl,lk,hcd⟩:=F.ex
 exact .all (h kV doc pm an cdv ct)
theorem fun_mk {x qual:Str} {st:Stmt} {f:Addr} {oc:Value} {od an:Option Addr} {osl:Array (Option Value)} {kV doc pm cdv ct:Value} (l:K.lookup f=some ⟨oc,od,.func (PySem.W.fnOf x qual (defArgs st) (defBody st) (defScope st) .none kV doc pm an cdv ct),osl⟩)
  (c:PySem.W.codeIn K cdv qual=true) (k:PySem.W.keepIn K (.ref f)=true):Fun K x qual st f (PySem.W.fnOf x qual (defArgs st) (defBody st) (defScope st) .none kV doc pm an cdv ct):=⟨⟨oc,od,kV,doc,pm,an,cdv,ct,osl,rfl,l,c⟩,k⟩
end
theorem hu_of {A:Around} {k:Nat} (hr:Room k A):A.units + 1 < cLine:=Nat.lt_of_le_of_lt (Nat.add_le_add_left (by decide:1≤64) _) hr.units
theorem small1000 {n:Nat} (h:n≤1000):n < sizeLine:=Nat.lt_of_le_of_lt h (by decide)
section
variable {X:Cx}
theorem pv (i:Nat) {x:Str} {pos:Pos} (hN:X.N[i]?=some x:=by rfl) (hv:Vis X.env.scope x:=by first | exact Or.inl rfl | exact Or.inr (Or.inl rfl) | exact Or.inr (Or.inr rfl)) (hd:(x == ("__debug__":Str))=false:=by decide)
  (hcd:(x == ("__classdict__":Str))=false:=by decide):PE X (.Name x pos) (tVar i):=pe_var hN hv hd hcd
end
theorem iteF {A B:Prop} (h:B):if false=true then A else B:=by
 rw [if_neg Bool.false_ne_true]
 exact h
theorem iteT {A B:Prop} (h:A):if true=true then A else B:=by
 rw [if_pos rfl]
 exact h
theorem ite2 {c A B:Prop} [Decidable c] (h1:c→A) (h2:¬ c→B):if c then A else B:=by
 by_cases h:c
 ·rw [if_pos h]
  exact h1 h
 ·rw [if_neg h]
  exact h2 h
noncomputable def Same (H H':Hp):Prop:=∀ b o,H b=some o→H' b=some o
theorem Same.refl (H:Hp):Same H H:=fun _ _ h=>h
theorem Same.trans {H H1 H2:Hp} (a:Same H H1) (b:Same H1 H2):Same H H2:=fun c o h=>b c o (a c o h)
theorem Same.free {H H':Hp} (e:Same H H') {l:Addr} (h:H' l=Option.none):H l=Option.none:=by
 cases q:H l with
 | none=>rfl
 | some o =>
  rw [e l o q] at h
  cases h
theorem Same.seq {K:PySem.W.Frag} {H H':Hp} {a:Addr} {xs:List V} (e:Same H H') (h:SqL K H a xs):SqL K H' a xs:=by
 rcases h with (h | ⟨o,h⟩) | h
 ·exact .inl (.inl (e _ _ h))
 ·exact .inl (.inr ⟨o,e _ _ h⟩)
 ·exact .inr h
section
variable {κ:Type} [DecidableEq κ]
theorem nd_snoc:∀ {l:List κ} {k:κ},l.Nodup→¬ k∈l→(l ++ [k]).Nodup
 | [],k,_,_=>by simp
 | a :: r,k,h,hk=>by
  obtain ⟨h1,h2⟩:=List.nodup_cons.mp h
  show (a :: (r ++ [k])).Nodup
  refine List.nodup_cons.mpr ⟨fun m=>?_,nd_snoc h2 fun m=>hk (List.mem_cons.mpr (Or.inr m))⟩
  rcases List.mem_append.mp m with q | q
  ·exact h1 q
  ·exact hk (List.mem_cons.mpr (Or.inl (List.mem_singleton.mp q).symm))
end
end L2
set_option Elab.async false
set_option linter.all false
set_option maxRecDepth 100000
set_option maxHeartbeats 4100000
namespace L2
open PySem PySem.Spec PyProof.Rows
noncomputable def Has (P:Program) (w:World) (K:PySem.W.Frag) (mg:Str→Option Value) (base:Heap) (k:Nat) (x:Str) (ps:List Str) (sp:Sp):Prop :=
 ∃ (f:Addr) (fd:FuncData),FnOk P w K mg base CX0 k f fd ps sp∧mg x=some (.ref f)∧PySem.W.keepIn K (.ref f)=true∧Binds K fd ps []
theorem Has.mono {P:Program} {w:World} {K:PySem.W.Frag} {mg:Str→Option Value} {base:Heap} {j k:Nat} {x:Str} {ps:List Str} {sp:Sp} (h:Has P w K mg base j x ps sp) (hjk:j≤k):Has P w K mg base k x ps sp:=by
 obtain ⟨f,fd,F,r⟩:=h
 exact ⟨f,fd,F.mono hjk,r⟩
section
variable {X:Cx} {k:Nat} {x:Str} {ps:List Str} {sp:Sp} {p pos:Pos} {e:Expr} {es:List Expr} {t:TA}
theorem pe_fn (h:Has X.prog X.w X.K X.mg X.base k x ps sp) (hr:Room k X.A) (ha:PA X (e :: es) t) (hg:Gl X x:=by rfl) (hdb:(x == ("__debug__":Str))=false:=by decide)
  (he:starEach (e :: es) X.env=(false,eval e X.env) :: starEach es X.env:=by rfl) (hpl:(backTo pos (starEach es X.env)).any (·.1)=false:=by rfl) :
  PE X (.Call (.Name x p) (e :: es) [] pos) (tCall sp [] E0 t):=by
 obtain ⟨f,fd,F,hm,hk,hb⟩:=h
 exact pe_call F hr hg hm hk hb .nil pass0 ha hdb he hpl
end
noncomputable def ObjK (K:PySem.W.Frag) (H:Hp) (p:Addr):Prop:=(∃ xs,SqL K H p xs)∨(∃ xs,SqT K H p xs)∨∃ kvs,Rd H p (.dK kvs)
noncomputable def isIntV (K:PySem.W.Frag) (x:V) (H:Hp) (b:Bool):Prop:=match x with
 | .non=>b=false | .bl _=>b=true | .int _=>b=true | .str _=>b=false
 | .ref p=>b=false∧ObjK K H p
 | _=>False
noncomputable def isBoolV (K:PySem.W.Frag) (x:V) (H:Hp) (b:Bool):Prop:=match x with
 | .non=>b=false | .bl _=>b=true | .int _=>b=false | .str _=>b=false
 | .ref p=>b=false∧ObjK K H p
 | _=>False
section
variable {X:Cx}
noncomputable def rIs (T:String) (r:V→Hp→Bool→Prop):List V→Hp→VK→Prop:=fun xs H Q=>Ex_2_3 (fun x b=>xs=[x,.ty T]) (fun x b=>r x H b) (fun x b=>Q (.bl b) H)
theorem inst_yes {pins:List (Addr×Obj)} {s:Shared} {σ:St} {H:Hp} {Q:VK} {u:Value} {S T:String} (I:Inv X pins σ H s) (ht:s.TypeIs u S) (m:typeOf (.type T)=pure (.type "type")) (sb:isSubtype (.type S) (.type T)=pure true) (q:Q (.bl true) H) :
  wpAny (model X.prog X.w) X.A (call (.builtin "isinstance") [u,.type T]) (EP X pins σ Q) X.xe s:=call_isinstance_yes ht m sb ⟨.bl true,H,I,rfl,q⟩
theorem lst_obj {pins:List (Addr×Obj)} {s:Shared} {σ:St} {H:Hp} {p:Addr} {xs:List V} (I:Inv X pins σ H s) (h:SqL X.K H p xs):∃ o,s.heap.get? p=some o∧o.cls=.type "list":=by
 obtain ⟨its,_,⟨o,n,e,c,_⟩,_⟩:=I.list h
 exact ⟨o,e,c⟩
theorem tup_obj {pins:List (Addr×Obj)} {s:Shared} {σ:St} {H:Hp} {p:Addr} {xs:List V} (I:Inv X pins σ H s) (h:SqT X.K H p xs):∃ o,s.heap.get? p=some o∧o.cls=.type "tuple":=by
 obtain ⟨its,_,⟨o,e,c,_⟩,_⟩:=I.tuple h
 exact ⟨o,e,c⟩
theorem dk_obj {pins:List (Addr×Obj)} {s:Shared} {σ:St} {H:Hp} {p:Addr} {kvs:List (Key×V)} (I:Inv X pins σ H s) (h:Rd H p (.dK kvs)):∃ o,s.heap.get? p=some o∧o.cls=.type "dict":=by
 obtain ⟨_,_,vs,_,o,_,_,e,x,_⟩:=dk_rd I.hok h
 exact ⟨o,e,x.1⟩
section
variable {pins:List (Addr×Obj)} {s:Shared} {σ:St} {H:Hp} {Q:VK} {T:String} {p:Addr}
theorem no_non (I:Inv X pins σ H s) (hne:(Value.type "NoneType" == Value.type T)=false) (m:typeOf (.type T)=pure (.type "type")) (sb:isSubtype (.type "NoneType") (.type T)=pure false) (q:Q (.bl false) H) :
  wpAny (model X.prog X.w) X.A (call (.builtin "isinstance") [.none,.type T]) (EP X pins σ Q) X.xe s:=PySem.call_isinstance (isinstance_false_none hne m sb) ⟨.bl false,H,I.tok _,rfl,q⟩
theorem no_int {i:Int} {t:Tok} (I:Inv X pins σ H s) (hne:(Value.type "int" == Value.type T)=false) (m:typeOf (.type T)=pure (.type "type")) (sb:isSubtype (.type "int") (.type T)=pure false) (q:Q (.bl false) H) :
  wpAny (model X.prog X.w) X.A (call (.builtin "isinstance") [.int i t,.type T]) (EP X pins σ Q) X.xe s:=PySem.call_isinstance (isinstance_false_int hne m sb) ⟨.bl false,H,I.tok _,rfl,q⟩
theorem no_str {z:Str} {t:Tok} (I:Inv X pins σ H s) (hne:(Value.type "str" == Value.type T)=false) (m:typeOf (.type T)=pure (.type "type")) (sb:isSubtype (.type "str") (.type T)=pure false) (q:Q (.bl false) H) :
  wpAny (model X.prog X.w) X.A (call (.builtin "isinstance") [.str z t,.type T]) (EP X pins σ Q) X.xe s:=PySem.call_isinstance (isinstance_false_str hne m sb) ⟨.bl false,H,I.tok _,rfl,q⟩
theorem no_lst {xs:List V} (I:Inv X pins σ H s) (h:SqL X.K H p xs) (hne:(Value.type "list" == Value.type T)=false) (m:typeOf (.type T)=pure (.type "type")) (sb:isSubtype (.type "list") (.type T)=pure false) (q:Q (.bl false) H) :
  wpAny (model X.prog X.w) X.A (call (.builtin "isinstance") [.ref p,.type T]) (EP X pins σ Q) X.xe s:=PySem.call_isinstance (isinstance_false_list hne m sb) ⟨lst_obj I h,⟨.bl false,H,I.tok _,rfl,q⟩⟩
theorem no_tup {xs:List V} (I:Inv X pins σ H s) (h:SqT X.K H p xs) (hne:(Value.type "tuple" == Value.type T)=false) (m:typeOf (.type T)=pure (.type "type")) (sb:isSubtype (.type "tuple") (.type T)=pure false) (q:Q (.bl false) H) :
  wpAny (model X.prog X.w) X.A (call (.builtin "isinstance") [.ref p,.type T]) (EP X pins σ Q) X.xe s:=PySem.call_isinstance (isinstance_false_tuple hne m sb) ⟨tup_obj I h,⟨.bl false,H,I.tok _,rfl,q⟩⟩
theorem no_dk {kvs:List (Key×V)} (I:Inv X pins σ H s) (h:Rd H p (.dK kvs)) (hne:(Value.type "dict" == Value.type T)=false) (m:typeOf (.type T)=pure (.type "type")) (sb:isSubtype (.type "dict") (.type T)=pure false) (q:Q (.bl false) H) :
  wpAny (model X.prog X.w) X.A (call (.builtin "isinstance") [.ref p,.type T]) (EP X pins σ Q) X.xe s:=PySem.call_isinstance (isinstance_false_dict hne m sb) ⟨dk_obj I h,⟨.bl false,H,I.tok _,rfl,q⟩⟩
theorem no_obj (I:Inv X pins σ H s) (h:ObjK X.K H p) (m:typeOf (.type T)=pure (.type "type")) (n1:(Value.type "list" == Value.type T)=false) (s1:isSubtype (.type "list") (.type T)=pure false)
  (n2:(Value.type "tuple" == Value.type T)=false) (s2:isSubtype (.type "tuple") (.type T)=pure false) (n3:(Value.type "dict" == Value.type T)=false) (s3:isSubtype (.type "dict") (.type T)=pure false) (q:Q (.bl false) H) :
  wpAny (model X.prog X.w) X.A (call (.builtin "isinstance") [.ref p,.type T]) (EP X pins σ Q) X.xe s:=by
 rcases h with ⟨xs,h⟩ | ⟨xs,h⟩ | ⟨kvs,h⟩
 ·exact no_lst I h n1 m s1 q
 ·exact no_tup I h n2 m s2 q
 ·exact no_dk I h n3 m s3 q
end
theorem call_isInt:CallR X (.builtin "isinstance") (rIs "int" (isIntV X.K)):=by
 intro pins s σ H xs us Q I r h
 obtain ⟨x,b,rfl,hx,q⟩:=h
 obtain ⟨u,u',rfl,r1,r2⟩:=vals2 r
 cases r2
 cases x with
 | non=>cases r1; cases (show b=false from hx); exact no_non I (by decide) meta_int sub_NoneType_int q
 | bl z=>cases r1; cases (show b=true from hx); exact inst_yes I rfl meta_int sub_bool_int q
 | int z=>obtain ⟨t,rfl⟩:=r1; cases (show b=true from hx); exact inst_yes I rfl meta_int sub_int_int q
 | str z=>obtain ⟨t,rfl⟩:=r1; cases (show b=false from hx); exact no_str I (by decide) meta_int sub_str_int q
 | ref p=>cases r1; obtain ⟨rfl,o⟩:=hx; exact no_obj I o meta_int (by decide) sub_list_int (by decide) sub_tuple_int (by decide) sub_dict_int q
 | _=>exact False.elim hx
theorem call_isBool:CallR X (.builtin "isinstance") (rIs "bool" (isBoolV X.K)):=by
 intro pins s σ H xs us Q I r h
 obtain ⟨x,b,rfl,hx,q⟩:=h
 obtain ⟨u,u',rfl,r1,r2⟩:=vals2 r
 cases r2
 cases x with
 | non=>cases r1; cases (show b=false from hx); exact no_non I (by decide) meta_bool sub_NoneType_bool q
 | bl z=>cases r1; cases (show b=true from hx); exact inst_yes I rfl meta_bool sub_bool_bool q
 | int z=>obtain ⟨t,rfl⟩:=r1; cases (show b=false from hx); exact no_int I (by decide) meta_bool sub_int_bool q
 | str z=>obtain ⟨t,rfl⟩:=r1; cases (show b=false from hx); exact no_str I (by decide) meta_bool sub_str_bool q
 | ref p=>cases r1; obtain ⟨rfl,o⟩:=hx; exact no_obj I o meta_bool (by decide) sub_list_bool (by decide) sub_tuple_bool (by decide) sub_dict_bool q
 | _=>exact False.elim hx
end
end L2
namespace L2
open PySem PySem.Spec PyProof.Rows
theorem bt_len:bootBuiltins "len"=some (.builtin "len"):=by decide +kernel
theorem bt_min:bootBuiltins "min"=some (.builtin "min"):=by decide +kernel
theorem bt_sum:bootBuiltins "sum"=some (.builtin "sum"):=by decide +kernel
theorem bt_isinstance:bootBuiltins "isinstance"=some (.builtin "isinstance"):=by decide +kernel
theorem bt_int:bootBuiltins "int"=some (.type "int"):=by decide +kernel
theorem bt_bool:bootBuiltins "bool"=some (.type "bool"):=by decide +kernel
theorem bt_str:bootBuiltins "str"=some (.type "str"):=by decide +kernel
theorem bt_list:bootBuiltins "list"=some (.type "list"):=by decide +kernel
theorem bt_tuple:bootBuiltins "tuple"=some (.type "tuple"):=by decide +kernel
theorem Same.seqT {K:PySem.W.Frag} {H H':Hp} {a:Addr} {xs:List V} (e:Same H H') (h:SqT K H a xs):SqT K H' a xs:=by
 rcases h with (h | ⟨o,h⟩) | h
 ·exact .inl (.inl (e _ _ h))
 ·exact .inl (.inr ⟨o,e _ _ h⟩)
 ·exact .inr h
theorem Same.new {H:Hp} {p:Addr} {o:HO} (h:H p=none):Same H (upd H p o):=fun b u e=>by rw [upd_ne (ne_of_none e h)]; exact e
theorem Same.then {H H1:Hp} {p:Addr} {o:HO} (s:Same H H1) (h:H1 p=none):Same H (upd H1 p o):=s.trans (Same.new h)
theorem SqT.new {K:PySem.W.Frag} {H:Hp} {p:Addr} {xs:List V}:SqT K (upd H p (.tup xs)) p xs:=SqT.of upd_same
theorem SqL.new {K:PySem.W.Frag} {H:Hp} {p:Addr} {xs:List V}:SqL K (upd H p (.lst xs)) p xs:=SqL.of upd_same
inductive Deed where
 | put (x:Str) (n:Int) (g:V)
 | get (c x:Str) (g:V)
 | swap (c x:Str) (n:Int) (g:V)
 | fence (g:V)
 | bar (g:V)
noncomputable def Deed.items:Deed→List V
 | .put x n g=>[.str "put",.str x,.int n,g]
 | .get c x g=>[.str "get",.str c,.str x,g]
 | .swap c x n g=>[.str "swap",.str c,.str x,.int n,g]
 | .fence g=>[.str "fence",g]
 | .bar g=>[.str "bar",g]
noncomputable def Deed.place:Deed→V
 | .put x _ _=>.str x | .get _ x _=>.str x | .swap _ x _ _=>.str x | _=>.non
noncomputable def Deed.writes:Deed→Bool
 | .put _ _ _=>true | .swap _ _ _ _=>true | _=>false
noncomputable def Deed.reads:Deed→Bool
 | .get _ _ _=>true | .swap _ _ _ _=>true | _=>false
noncomputable def Deed.number:Deed→V
 | .put _ n _=>.int n | .swap _ _ n _=>.int n | _=>.non
noncomputable def Deed.guard:Deed→V
 | .put _ _ g=>g | .get _ _ g=>g | .swap _ _ _ g=>g | .fence g=>g | .bar g=>g
noncomputable def Gd (K:PySem.W.Frag) (H:Hp) (g:V):Prop:=g=.non∨Ex_4_2 (fun (q:Addr) (w c:Str) (n:Int)=>g=.ref q) (fun q w c n=>SqT K H q [.str w,.str c,.int n])
theorem Gd.same {K:PySem.W.Frag} {H H':Hp} {g:V} (s:Same H H') (h:Gd K H g):Gd K H' g:=by
 rcases h with h | ⟨q,w,c,n,e,h⟩
 ·exact .inl h
 ·exact .inr ⟨q,w,c,n,e,s.seqT h⟩
end L2
namespace L2
open PySem PySem.Spec PyProof.Rows
section
variable {X:Cx} {st:Stmt} {rest:List Stmt} {t u:TS}
noncomputable def tCut (t u:TS):TS:=fun D σ H=>Ex_1_2 (fun (R:St→Hp→Prop)=>t { D with nx:=R } σ H) (fun R=>∀ σ' H',R σ' H'→u D σ' H')
theorem pss_cut (h1:PS X st t) (h2:PSs X rest u):PSs X (st :: rest) (tCut t u):=by
 intro pins s σ H D I h
 obtain ⟨R,h,hR⟩:=h
 refine wpAny_execs_cons (thn (h1 pins s σ H { D with nx:=R } I h) fun f s1 q=>?_)
 cases f with
 | next =>
  obtain ⟨σ',H',I',q⟩:=q
  exact h2 pins s1 σ' H' D I' (hR σ' H' q)
 | brk=>exact q
 | cont=>exact q
 | ret v=>exact q
end
theorem qb {Q:VK} {H:Hp} {b b':Bool} (q:Q (.bl b) H) (e:b=b'):Q (.bl b') H:=e ▸ q
theorem ifT {b:Bool} {A B:Prop} (e:b=true) (h:A):if b=true then A else B:=by rw [if_pos e]; exact h
theorem ifF {b:Bool} {A B:Prop} (e:b=false) (h:B):if b=true then A else B:=by rw [if_neg (by rw [e]; exact Bool.false_ne_true)]; exact h
theorem ifDt {c A B:Prop} [Decidable c] (hc:c) (h:A):if decide c=true then A else B:=ifT (decide_eq_true hc) h
theorem ifDf {c A B:Prop} [Decidable c] (hc:¬ c) (h:B):if decide c=true then A else B:=ifF (decide_eq_false hc) h
theorem ifNf {c A B:Prop} [Decidable c] (hc:c) (h:B):if (!decide c)=true then A else B:=ifF (by rw [decide_eq_true hc]; rfl) h
theorem ifB {b:Bool} {A B:Prop} (h1:b=true→A) (h2:b=false→B):if b=true then A else B:=by
 cases b with
 | true=>exact ifT rfl (h1 rfl)
 | false=>exact ifF rfl (h2 rfl)
theorem ifD {c A B:Prop} [Decidable c] (h1:c→A) (h2:¬ c→B):if decide c=true then A else B:=by
 by_cases h:c
 ·exact ifDt h (h1 h)
 ·exact ifDf h (h2 h)
end L2
set_option Elab.async false
set_option linter.all false
set_option maxRecDepth 100000
set_option maxHeartbeats 4100000
namespace L2
open PySem PySem.Spec PyProof.Rows
section
variable {X:Cx}
theorem eqV_self {v:V} (h:flatV v=true):eqV v v=true:=by
 cases v with
 | non=>rfl
 | bl b=>exact beq_self_eq_true b
 | int i=>exact beq_self_eq_true i
 | str x=>exact beq_self_eq_true x
 | _=>cases h
end
end L2
namespace L2
open PySem PySem.Spec PyProof.Rows
end L2
namespace L2
open PySem PySem.Spec PyProof.Rows
theorem atI_ints {cs:List Int} {z:Int} (h0:0≤z) (h1:z < (cs.length:Int)):atI (cs.map V.int) z=some (.int (cs.getD z.toNat 0)):=by
 obtain ⟨j,rfl⟩:=Int.eq_ofNat_of_zero_le h0
 have hj:j < cs.length:=by lia
 refine atI_nat ?_
 rw [List.getElem?_map,List.getElem?_eq_getElem hj,Int.toNat_natCast,List.getD_eq_getElem?_getD,List.getElem?_eq_getElem hj]
 rfl
end L2
set_option Elab.async false
set_option linter.all false
set_option maxRecDepth 100000
set_option maxHeartbeats 4100000
namespace L2
open PySem PySem.Spec PyProof.Rows
noncomputable abbrev askAll (ifs:List Expr) (cenv:Env):Sem Bool:=forIn ifs true fun q r=>if r=true then do let y ← isTrue q cenv (eval q cenv); pure (ForInStep.yield y) else pure (ForInStep.yield r)
noncomputable abbrev NoEx:Value→Shared→Prop:=fun _ _=>False
theorem codeAny_compLoop_any {prog:Program} {w:World} {A:Around} {R:Result→Shared→Prop} {s:Shared} {elt target iter:Expr} {ifs:List Expr} {scope:Scope} {pos:Pos} {it acc:Value} {cenv:Env} (W:Nat→Shared→Prop)
  (turn:∀ n sa,W n sa→wpAny (model prog w) A (pyNext it) (fun got sb=>match got with
   | none=>R (.ok .next) sb
   | some v=>wpAny (model prog w) A (letOwnedTupleGo target it v) (fun _ sc=>wpAny (model prog w) A (assign target cenv v) (fun _ sd =>
     wpAny (model prog w) A (askAll ifs cenv) (fun yes se =>
      if yes=true then wpAny (model prog w) A (eval elt cenv) (fun x sf =>
       wpAny (model prog w) A (call (.builtin "list.append") [acc,x]) (fun _ sg=>∃ m,m < n∧W m sg) NoEx sf) NoEx se
      else ∃ m,m < n∧W m se) NoEx sd) NoEx sc) NoEx sb) NoEx sa)
  (n:Nat) (h:W n s):codeAny (model prog w) A (.compLoop (.ListComp elt [⟨target,iter,ifs,0⟩] scope pos) 0 it acc cenv) R s:=by
 refine codeAny_loop rfl W (fun n sa hW=>?_) n h
 show wpAny _ A ((compTurn (.ListComp elt [⟨target,iter,ifs,0⟩] scope pos) 0 it acc cenv).onRaise (fun x=>do noteFrame x cenv; theTreesLotGoes x)) _ _ sa
 refine wpAny_noted ?_
 rw [compTurn_list]
 refine wpAny_bind (wpAny_standAt (wpAny_bind (wpAny_mono (turn n sa hW) (fun got sb hb=>?_) fun _ _ z=>z.elim)))
 cases got with
 | none=>exact wpAny_pure hb
 | some v =>
  refine wpAny_bind (wpAny_mono hb (fun _ sc hc=>?_) fun _ _ z=>z.elim)
  refine wpAny_bind (wpAny_mono hc (fun _ sd hd=>wpAny_bind (wpAny_mono hd (fun yes se he=>?_) fun _ _ z=>z.elim)) fun _ _ z=>z.elim)
  cases yes with
  | false=>exact wpAny_pure (And.intro rfl he)
  | true =>
   exact wpAny_bind (wpAny_bind (wpAny_mono he (fun x sf hf=>wpAny_bind (wpAny_mono hf (fun _ sg hg=>wpAny_pure (wpAny_pure ⟨rfl,hg⟩)) fun _ _ z=>z.elim)) fun _ _ z=>z.elim))
noncomputable def Cx.comp (X:Cx) (Nc:List Str) (scope:Scope) (cl:List (Str×Addr)) (C:Addr) (s3:Shared) (H3:Hp) (fp:List Addr) (pins:List (Addr×Obj)):Cx :=
 { X with N:=Nc,s₀:=s3,H₀:=H3,env:=compEnvC scope cl C X.env,outer:=X.stack,ex:=fp,fn:=fun _=>false,pn:=X.pn ++ pins,xe:=fun _ _=>False }
inductive Caps (X:Cx) (scope:Scope):List Nat→List Str→Prop
 | nil:Caps X scope [] []
 | cons {j:Nat} {y:Str} {js:List Nat} {ys:List Str}:X.N[j]?=some y→X.env.kindOf y=some .cell→(relabel scope X.env).names.lookup y=some .cell→Caps X scope js ys→Caps X scope (j :: js) (y :: ys)
inductive CapsCl (X:Cx):List (Str×Addr)→Prop
 | nil:CapsCl X []
 | cons {n:Str} {c:Addr} {r:List (Str×Addr)}:X.env.cells.lookup n=some c→CapsCl X r→CapsCl X ((n,c) :: r)
theorem CapsCl.at {X:Cx}:∀ {cl:List (Str×Addr)},CapsCl X cl→∀ x c,cl.lookup x=some c→X.env.cells.lookup x=some c
 | _,.nil,_,_,h=>by cases h
 | (n,d) :: r,.cons h1 h2,x,c,h=>by
  rw [List.lookup_cons] at h
  cases e:x == n with
  | true =>
   rw [e] at h
   have:d=c:=Option.some.inj h
   subst this
   rw [eq_of_beq e]
   exact h1
  | false=>rw [e] at h; exact CapsCl.at h2 x c h
structure CompSc (X:Cx) (Nc:List Str) (nt:Nat) (js:List Nat) (scope:Scope) (cl:List (Str×Addr)):Prop where
 clos:closureFor scope X.env=pure cl
 kind:scope.kind=.function
 cell:(scope.names.all fun y=>y.2 != .cell)=true
 names:(scope.names.all fun y=>y.2 != .local || scope.names.lookup y.1 == some .local)=true
 cls:CapsCl X cl
 has:(scope.names.all fun y=>y.2 != .free || (cl.lookup y.1).isSome)=true
 caps:Ex_2_3 (fun ts ys=>Nc=ts ++ ys) (fun ts ys=>ts.length=nt) (fun ts ys=>Caps X scope js ys)
noncomputable def capsOf (σ:St) (nt:Nat) (js:List Nat):St:=List.replicate nt none ++ js.map fun j=>(σ[j]?).getD none
theorem Caps.length {X:Cx} {scope:Scope} {js:List Nat} {ys:List Str} (h:Caps X scope js ys):js.length=ys.length:=by
 induction h with
 | nil=>rfl
 | cons _ _ _ r ih=>rw [List.length_cons,List.length_cons,ih]
theorem Caps.get {X:Cx} {scope:Scope} {js:List Nat} {ys:List Str} (c:Caps X scope js ys):∀ (i:Nat) y,ys[i]?=some y→∃ j,js[i]?=some j∧X.N[j]?=some y∧X.env.kindOf y=some .cell∧(relabel scope X.env).names.lookup y=some .cell:=by
 induction c with
 | nil=>intro i y h; cases h
 | cons h1 h2 h3 r ih =>
  intro i y h
  cases i with
  | zero=>cases h; exact ⟨_,rfl,h1,h2,h3⟩
  | succ i=>exact ih i y h
theorem relabel_free {scope:Scope} {env:Env} (hc:(scope.names.all fun y=>y.2 != .cell)=true) {x:Str} {k:NameKind} (hk:k=.cell∨k=.free) (h:(relabel scope env).names.lookup x=some k):(x,NameKind.free)∈scope.names:=by
 have hm:(x,k)∈(relabel scope env).names:=PySem.mem_of_lookup h
 obtain ⟨⟨n,k'⟩,hp,e⟩:=List.mem_map.mp hm
 have nc:k'≠.cell:=by
  have:=List.all_eq_true.mp hc _ hp
  simpa using this
 dsimp only at e
 split at e
 ·rename_i cond
  have e1:n=x:=congrArg Prod.fst e
  have kf:k'=.free:=by
   simp only [Bool.and_eq_true,beq_iff_eq] at cond
   exact cond.1.1
  rw [← e1,← kf]
  exact hp
 ·have e1:n=x:=congrArg Prod.fst e
  have e2:k'=k:=congrArg Prod.snd e
  rcases hk with z | z
  ·exact absurd (e2.trans z) nc
  ·rw [← e1,← (e2.trans z)]
   exact hp
section
variable {X:Cx} {Nc:List Str} {nt:Nat} {js:List Nat} {scope:Scope} {cl:List (Str×Addr)}
theorem CompSc.lk (S:CompSc X Nc nt js scope cl) {x:Str} {k:NameKind} (hk:k=.cell∨k=.free) (h:(relabel scope X.env).names.lookup x=some k):∃ c,cl.lookup x=some c:=by
 have hm:=relabel_free S.cell hk h
 have:=List.all_eq_true.mp S.has _ hm
 have h2:(cl.lookup x).isSome=true:=by simpa using this
 exact Option.isSome_iff_exists.mp h2
theorem comp_start {pins:List (Addr×Obj)} {σ:St} {H3:Hp} {s3:Shared} {fp:List Addr} {h1:Heap} {m:Str→Option Value} {tk:Nat} (S:CompSc X Nc nt js scope cl) (I:Inv X pins σ H3 s3)
  (hf:∀ b∈fp,FpOk X pins H3 b) (hfo:∀ b∈fp,∃ o,s3.heap.get? b=some o) (hns:h1.Ns s3.heap.objs.size m) (hk:∀ b o,s3.heap.get? b=some o→h1.get? b=some o) :
  Inv (X.comp Nc scope cl s3.heap.objs.size s3 H3 fp pins) [] (capsOf σ nt js) H3 { s3 with heap:=h1,toks:=tk }:=by
 have fresh:H3 s3.heap.objs.size=none:=I.hok.fresh (Nat.le_refl _)
 have nst:∀ b∈fp,b ∉ frs X.stack:=fun b hb z=>by
  obtain ⟨_,n1,n2,_⟩:=hf b hb
  rcases List.mem_cons.mp (I.stkSub b z) with e | e
  ·exact n1 e
  ·exact n2 e
 have ok:(X.comp Nc scope cl s3.heap.objs.size s3 H3 fp pins).Ok:=by
  refine ⟨I.ok.mod,S.kind,I.ok.glob,I.ok.blt,Nat.le_refl _,fun x y c a b=>I.ok.inj x y c (S.cls.at x c a) (S.cls.at y c b),fun x hx=>?_,fun x c z=>?_,I.ok.hd,I.ok.frames,.inl rfl,fun b hb=>⟨?_,fun x c e=>?_⟩,I.bs,Nat.le_trans I.ok.bsz I.sz,fun b o e hb=>?_,nst,I.stack,I.stkFree⟩
  ·rcases hx with hx | hx
   ·exact S.lk (.inl rfl) hx
   ·exact S.lk (.inr rfl) hx
  ·exact absurd (show false=true from z) Bool.false_ne_true
  ·obtain ⟨o,ho⟩:=hfo b hb
   exact Nat.ne_of_lt (Heap.lt_size ho)
  ·exact (hf b hb).2.2.2.2.1 x c (S.cls.at x c e)
  ·rcases (hf b hb).2.2.2.1 with z | z
   ·exact I.ok.noex b o e z
   ·exact absurd (Nat.lt_of_lt_of_le (Heap.lt_size e) (Nat.le_trans I.ok.bsz z)) (Nat.lt_irrefl _)
 have cellAt:∀ x c v,X.env.cells.lookup x=some c→s3.heap.IsCell c v→h1.IsCell c v:=fun x c v _ ⟨o,ho,hd⟩=>⟨o,hk _ _ ho,hd⟩
 refine ⟨ok,rfl,I.bare,Un.kept hk,⟨m,hns,fun i y v e1 e2 e3=>?_⟩,fun x c e=>?_,fresh,fun x c e=>I.freeC x c (S.cls.at x c e),fun p hp=>?_,I.hok.kept hk,?_⟩
 ·obtain ⟨ts,ys,hN,hnt,hc⟩:=S.caps
  have e1:Nc[i]?=some y:=e1
  by_cases hi:i < nt
  ·unfold capsOf at e2
   rw [List.getElem?_append_left (by simpa using hi),List.getElem?_replicate] at e2
   split at e2 <;> cases e2
  ·rw [hN,List.getElem?_append_right (by lia)] at e1
   unfold capsOf at e2
   rw [List.getElem?_append_right (by simpa using hi),List.length_replicate,List.getElem?_map] at e2
   rw [hnt] at e1
   obtain ⟨j,a1,a2,a3,a4⟩:=hc.get _ y e1
   rw [a1] at e2
   have e2':(σ[j]?).getD none=some v:=Option.some.inj e2
   have e2'':σ[j]?=some (some v):=by
    cases q:σ[j]? with
    | none=>rw [q] at e2'; cases e2'
    | some z=>rw [q] at e2'; exact congrArg some e2'
   obtain ⟨mX,hnX,hlX⟩:=I.loc
   obtain ⟨u,r,l⟩:=hlX j y v a2 e2'' (.inr (.inl a3))
   refine ⟨u,r,.inr ⟨.inl a4,?_⟩⟩
   rcases l with ⟨k1,_⟩ | ⟨_,c,hc1,hc2⟩
   ·rw [a3] at k1; cases k1
   ·obtain ⟨c',hc'⟩:=S.lk (.inl rfl) a4
    have:=S.cls.at y c' hc'
    rw [hc1] at this
    have e:c=c':=Option.some.inj this
    subst e
    exact ⟨c,hc',cellAt y c _ hc1 hc2⟩
 ·obtain ⟨v,z⟩:=I.cell x c (S.cls.at x c e)
  exact ⟨v,cellAt x c v (S.cls.at x c e) z⟩
 ·have hp':p∈X.pn ++ pins:=by
   have hp:p∈(X.pn ++ pins) ++ []:=hp
   rwa [List.append_nil] at hp
  obtain ⟨e,n,ne,nf,d⟩:=I.pin p hp'
  refine ⟨hk _ _ e,n,Nat.ne_of_lt (Heap.lt_size e),fun z=>?_,d⟩
  rcases List.mem_cons.mp (I.stkSub p.1 z) with q | q
  ·exact ne q
  ·exact nf q
 ·obtain ⟨ts,ys,hN,hnt,hc⟩:=S.caps
  show (capsOf σ nt js).length=Nc.length
  unfold capsOf
  rw [hN,List.length_append,List.length_append,List.length_replicate,List.length_map,hc.length,hnt]
theorem comp_end {pins:List (Addr×Obj)} {σ:St} {H3 Hf:Hp} {s3 s':Shared} {fp:List Addr} {σ':St} {pins':List (Addr×Obj)} (I:Inv X pins σ H3 s3) (hf:∀ b∈fp,FpOk X pins H3 b)
  (Ic:Inv (X.comp Nc scope cl s3.heap.objs.size s3 H3 fp pins) pins' σ' Hf s'):Inv X pins σ Hf s'∧FpOk X pins Hf s3.heap.objs.size∧∃ m,s'.heap.Ns s3.heap.objs.size m:=by
 obtain ⟨m,hn,_⟩:=Ic.loc
 refine ⟨I.call' Ic.os Ic.base Ic.hok Ic.bare fun b hb=>?_,I.fpOk (Nat.le_refl _) Ic.free,m,hn⟩
 obtain ⟨_,n1,_,n3,n4,n5⟩:=hf b hb
 exact ⟨n3,n1,n4,n5⟩
end
noncomputable def PTs (X:Cx) (ifs:List Expr) (t:TT):Prop :=
 ∀ (pins:List (Addr×Obj)) (s:Shared) (σ:St) (H:Hp) (Q:Bool→Hp→Prop),Inv X pins σ H s→t σ H Q →
  wpAny (model X.prog X.w) X.A (askAll ifs X.env) (TP X pins σ Q) X.xe s
noncomputable def tTrue:TT:=fun _ H Q=>Q true H
theorem pts_nil {X:Cx}:PTs X [] tTrue:=fun pins s σ H Q I h=>wpAny_tests_nil ⟨H,I,h⟩
end L2
namespace L2
open PySem PySem.Spec PyProof.Rows
noncomputable def tLoopC (g:TG) (tt:TT) (te:TE) (σc:St) (D:Addr) (J:It) (H:Hp) (F:Hp→Prop):Prop :=
 ∃ W:Nat→Nat→St→List V→Hp→Prop,(∃ m,W 0 m σc [] (upd H D (.lst [])))∧∀ i m σ ys H,W i m σ ys H→H D=some (.lst ys) ∧
  ((J.stop i H∧F H)∨(J.go i H∧ys.length < sizeLine∧∃ N:St→List V→Hp→Prop,(∀ σ' ys' H',N σ' ys' H'→∃ m',m' < m∧W (i + 1) m' σ' ys' H') ∧
   ∀ x H',J.yld i H x H'→g x σ H' fun σ2 H2=>tt σ2 H2 fun b H3=>if b=true then te σ2 H3 fun y H4=>H4 D=some (.lst ys)∧N σ2 (ys ++ [y]) (upd H4 D (.lst (ys ++ [y]))) else N σ2 ys H3))
noncomputable def tComp (wi:TI) (g:TG) (tt:TT) (te:TE) (nt:Nat) (js:List Nat):TE:=fun σ H Q=>wi σ H fun J H1=>∀ D,H1 D=none→tLoopC g tt te (capsOf σ nt js) D J H1 fun Hf=>Q (.ref D) Hf
section
variable {X:Cx} {Nc:List Str} {nt:Nat} {js:List Nat} {scope:Scope} {cl:List (Str×Addr)} {target elt iter:Expr} {ifs:List Expr} {pos:Pos} {g:TG} {tt:TT} {te:TE}
theorem comp_block {pins:List (Addr×Obj)} {σ:St} {H2:Hp} {s2:Shared} {it:Addr} {fp:List Addr} {tn:Nat→Heap→Prop} {J:It} {F:Addr→Hp→Prop} {E:Value→Shared→Prop} {RR:Value→Addr→Result→Shared→Prop}
  (hcalm:X.calm=true) (S:CompSc X Nc nt js scope cl) (I:Inv X pins σ H2 s2) (T:Turn X.prog X.w X.K target J fp it tn) (st:tn 0 s2.heap) (hf:∀ b∈fp,FpOk X pins H2 b)
  (body:∀ C s3 H3 fp pins,PG (X.comp Nc scope cl C s3 H3 fp pins) target g∧PTs (X.comp Nc scope cl C s3 H3 fp pins) ifs tt∧PE (X.comp Nc scope cl C s3 H3 fp pins) elt te)
  (h:∀ D,H2 D=none→tLoopC g tt te (capsOf σ nt js) D J H2 (F D))
  (hRR:∀ (D C:Addr) (Hf:Hp) (s':Shared),F D Hf→Inv X pins σ Hf s'→FpOk X pins Hf C→(∃ m,s'.heap.Ns C m)→RR (.ref D) C (.ok .next) s') :
  wpAny (model X.prog X.w) X.A (newList []) (fun acc s₃=>wpAny (model X.prog X.w) X.A (newFunctionEnv scope X.env.globals cl [] X.env.qual none .none (some X.env)) (fun cenv s₄ =>
   codeAny (model X.prog X.w) X.A (.compStart (.ListComp elt [⟨target,iter,ifs,0⟩] scope pos) 0 (.ref it) acc { cenv with scope:=relabel scope X.env }) (RR acc cenv.locals) s₄) E s₃) E s2:=by
 have hD:H2 s2.heap.objs.size=none:=I.hok.fresh (Nat.le_refl _)
 obtain ⟨W,⟨m0,w0⟩,turn⟩:=h _ hD
 have I3:Inv X pins σ (upd H2 s2.heap.objs.size (.lst [])) { s2 with heap:=s2.heap.push { cls:=.type "list",data:=.seq ([]:List Value).toArray } } :=
  I.laid (t':=s2.toks) (fun b u e=>Heap.get?_push_of_some _ e) (Nat.le_refl _) ⟨Nat.zero_le _,[],0,.nil,Heap.get?_push_size _ rfl⟩
 have neD:∀ b∈fp,b≠s2.heap.objs.size:=fun b hb=>by
  obtain ⟨o,ho,_⟩:=T.obj _ _ st b hb
  exact Nat.ne_of_lt (Heap.lt_size ho)
 have hf3:∀ b∈fp,FpOk X pins (upd H2 s2.heap.objs.size (.lst [])) b:=fun b hb=>⟨by rw [upd_ne (neD b hb)]; exact (hf b hb).1,(hf b hb).2⟩
 refine wpAny_newObj_type (wpAny_newFunctionEnv (fun y hy=>?_) (by intro y hy; simp at hy) (fun h1 hns1 hsb1=>?_) S.kind) (by show 0≤sizeLine; decide)
 ·have:=List.all_eq_true.mp S.cell y hy
  simpa using this
 obtain ⟨s3,hs3⟩:∃ s3,({ s2 with heap:=s2.heap.push { cls:=.type "list",data:=.seq ([]:List Value).toArray } }:Shared)=s3:=⟨_,rfl⟩
 rw [hs3] at I3 ⊢
 have e3:s2.heap.push { cls:=.type "list",dict:=none,data:=.seq ([]:List Value).toArray }=s3.heap:=by rw [← hs3]
 dsimp only at hns1 hsb1 ⊢
 rw [e3] at hns1 hsb1
 have old:∀ b o,s3.heap.get? b=some o→h1.get? b=some o:=fun b o e=>(hsb1.2 b (Nat.ne_of_lt (Heap.lt_size e))).trans (Heap.get?_push_of_some _ e)
 have st3:tn 0 s3.heap:=T.keep _ _ _ st fun b _ o e=>by rw [← e3]; exact Heap.get?_push_of_some _ e
 have hfo:∀ b∈fp,∃ o,s3.heap.get? b=some o:=fun b hb=>let ⟨o,ho,_⟩:=T.obj _ _ st3 b hb; ⟨o,ho⟩
 have Ic0:=comp_start (tk:=s3.toks + ([]:List (Str×Value)).length) S I3 hf3 hfo hns1 old
 have st4:tn 0 h1:=T.keep _ _ _ st3 fun b _ o e=>old b o e
 obtain ⟨hg,ht,he⟩:=body s3.heap.objs.size s3 (upd H2 s2.heap.objs.size (.lst [])) fp pins
 obtain ⟨Xc,hX⟩:∃ Xc,X.comp Nc scope cl s3.heap.objs.size s3 (upd H2 s2.heap.objs.size (.lst [])) fp pins=Xc:=⟨_,rfl⟩
 rw [hX] at Ic0 hg ht he
 have p1:X.prog=Xc.prog:=by rw [← hX]; rfl
 have p2:X.w=Xc.w:=by rw [← hX]; rfl
 have p3:X.A=Xc.A:=by rw [← hX]; rfl
 have p4:Xc.K=X.K:=by rw [← hX]; rfl
 have p5:Xc.env=compEnvC scope cl s3.heap.objs.size X.env:=by rw [← hX]; rfl
 have p6:Xc.xe=fun _ _=>False:=by rw [← hX]; rfl
 have p7:Xc.calm=true:=by rw [← hX]; exact hcalm
 have stat:∀ {H':Hp},(∀ b∈fp,H' b=none)→∀ b∈fp,FpOk Xc [] H' b:=fun {H'} hn b hb=>by
  rw [← hX]
  obtain ⟨n0,n1,n2,n3,n4,n5⟩:=hf3 b hb
  refine ⟨hn b hb,?_,?_,.inl hb,fun x c e=>n4 x c (S.cls.at x c e),fun p hp=>n5 p ?_⟩
  ·obtain ⟨o,ho⟩:=hfo b hb
   exact Nat.ne_of_lt (Heap.lt_size ho)
  ·intro z
   rcases List.mem_cons.mp (I3.stkSub b z) with e | e
   ·exact n1 e
   ·exact n2 e
  ·have hp:p∈(X.pn ++ pins) ++ []:=hp
   rwa [List.append_nil] at hp
 have loop:codeAny (model X.prog X.w) X.A (.compLoop (.ListComp elt [⟨target,iter,ifs,0⟩] scope pos) 0 (.ref it) (.ref s2.heap.objs.size) (compEnvC scope cl s3.heap.objs.size X.env)) (RR (.ref s2.heap.objs.size) s3.heap.objs.size)
   { s3 with heap:=h1,toks:=s3.toks + ([]:List (Str×Value)).length }:=by
  rw [← p5]
  refine codeAny_compLoop_any (fun n s'=>∃ i σ' ys H',Inv Xc [] σ' H' s'∧tn i s'.heap∧(∀ b∈fp,H' b=none)∧W i n σ' ys H') ?_ m0 ⟨0,capsOf σ nt js,[],_,Ic0,st4,fun b hb=>(hf3 b hb).1,w0⟩
  rintro n s5 ⟨i,σ5,ys,H5,I5,st5,fr5,w5⟩
  obtain ⟨hD5,w5⟩:=turn i n σ5 ys H5 w5
  rw [p3]
  rcases w5 with ⟨stop,fin⟩ | ⟨go,hlen,N,hN,step⟩
  ·refine thn (T.done Xc p1.symm p2.symm p4 p7 i [] s5 σ5 H5 _ I5 (stat fr5) st5 stop) fun r s6 ⟨hr,I6⟩=>?_
   subst hr
   rw [← hX] at I6
   obtain ⟨a1,a2,a3⟩:=comp_end I3 hf3 I6
   exact hRR _ _ H5 s6 fin a1 a2 a3
  ·refine thn (T.item Xc p1.symm p2.symm p4 p7 i [] s5 σ5 H5 _ I5 (stat fr5) st5 go) fun r s6 ⟨u,hr,h6⟩=>?_
   subst hr
   refine thn h6 fun _ s7 ⟨x,H7,I7,r7,y7,st7,fr7⟩=>?_
   have I7':=I7.pinned (stat fr7) (T.obj _ _ st7)
   have hg':=hg _ s7 σ5 H7 x u _ I7' r7 (step x H7 y7)
   rw [p6,← p1,← p2] at hg'
   refine thn hg' fun _ s8 ⟨σ8,H8,I8,q8⟩=>?_
   have ht':=ht _ s8 σ8 H8 _ I8 q8
   rw [p6,← p1,← p2] at ht'
   refine thn ht' fun ok s9 ⟨H9,I9,q9⟩=>?_
   have again:∀ {σ':St} {H':Hp} {ys':List V} {sz:Shared},Inv Xc ([] ++ pinsAt fp s7.heap) σ' H' sz→N σ' ys' H'→∃ m,m < n∧∃ i σ' ys H',Inv Xc [] σ' H' sz∧tn i sz.heap∧(∀ b∈fp,H' b=none)∧W i m σ' ys H':=fun {σ' H' ys' sz} Iz nz=>by
    obtain ⟨m',hm,wz⟩:=hN σ' ys' H' nz
    refine ⟨m',hm,i + 1,σ',ys',H',Iz.unpinned,T.keep _ _ _ st7 fun b hb o e=>(Iz.pin (b,o) (List.mem_append_right _ (List.mem_append_right _ (mem_pinsAt hb e)))).1,fun b hb=>?_,wz⟩
    obtain ⟨o,e,d⟩:=T.obj _ _ st7 b hb
    exact (Iz.pin (b,o) (List.mem_append_right _ (List.mem_append_right _ (mem_pinsAt hb e)))).2.1
   cases ok with
   | false=>exact again I9 q9
   | true =>
    have he':=he _ s9 σ8 H9 _ I9 q9
    rw [p6,← p1,← p2] at he'
    refine thn he' fun v s10 ⟨y,H10,I10,r10,hD10,q10⟩=>?_
    have mt:=mt_append (X:=Xc) _ s10 σ8 H10 (.ref s2.heap.objs.size) [y] (.ref s2.heap.objs.size) [v] (fun _ H'=>N σ8 (ys ++ [y]) H') I10 rfl (.cons r10 .nil) ⟨_,ys,y,rfl,rfl,hD10,hlen,q10⟩
    rw [p6,← p1,← p2] at mt
    refine thn mt fun _ s11 ⟨_,H11,I11,_,q11⟩=>?_
    exact again I11 q11
 exact codeAny_compStart_list loop (T.self _ 0 _ _ _ st4 loop)
end
end L2
namespace L2
open PySem PySem.Spec PyProof.Rows
section
variable {X:Cx} {Nc:List Str} {nt:Nat} {js:List Nat} {scope:Scope} {cl:List (Str×Addr)} {target elt iter:Expr} {ifs:List Expr} {pos spos py:Pos} {wi:TI} {g:TG} {tt:TT} {te:TE}
theorem names_ok (h:(scope.names.all fun y=>y.2 != .local || scope.names.lookup y.1 == some .local)=true):∀ y∈scope.names,y.2=.local→scope.names.lookup y.1=some .local:=fun y hy e=>by
 have:=List.all_eq_true.mp h y hy
 rw [e] at this
 simpa using this
theorem pe_comp (hcalm:X.calm=true) (S:CompSc X Nc nt js scope cl) (hi:PI X target iter wi)
  (body:∀ C s3 H3 fp pins,PG (X.comp Nc scope cl C s3 H3 fp pins) target g∧PTs (X.comp Nc scope cl C s3 H3 fp pins) ifs tt∧PE (X.comp Nc scope cl C s3 H3 fp pins) elt te)
  (hs:∀ x,foldedSetIterable iter X.env x=pure x:=by intro _; rfl):PE X (.ListComp elt [⟨target,iter,ifs,0⟩] scope pos) (tComp wi g tt te nt js):=by
 intro pins s σ H Q I h
 rw [eval_ListComp]
 refine wpAny_comprehension_free (use:=none) rfl hs S.clos S.kind (names_ok S.names) (thn (hi pins s σ H _ I h) fun v s1 h1=>thn h1 fun itv s2 h2=>?_)
 obtain ⟨it,fp,tn,J,H2,e,I2,T,st2,f2,hL⟩:=h2
 subst e
 refine comp_block (RR:=fun acc C=>compPost (model X.prog X.w) X.A X.xe none (EP X pins σ Q) acc C) hcalm S I2 T st2 f2 body hL fun D C Hf s' q I' fC hn=>?_
 obtain ⟨m,hn⟩:=hn
 obtain ⟨f0,f1,_,f3,f4,f5⟩:=fC
 refine ⟨m,hn,fun h' hs'=>⟨.ref D,Hf,I'.turned (t':=s'.toks) (fun b o hb e=>(hs'.2 b hb).trans e) f0 f1 f3 f4 f5,rfl,q⟩⟩
noncomputable def tCompS (i:Nat) (wi:TI) (g:TG) (tt:TT) (te:TE) (nt:Nat) (js:List Nat):TS:=fun D σ H=>tComp wi g tt te nt js σ H fun v H'=>D.nx (σ.set i (some v)) H'
theorem ps_comp {i:Nat} {y:Str} (hcalm:X.calm=true) (hN:X.N.Nodup) (hy:X.N[i]?=some y) (hl:X.env.scope.names.lookup y=some .local) (S:CompSc X Nc nt js scope cl) (hi:PI X target iter wi)
  (body:∀ C s3 H3 fp pins,PG (X.comp Nc scope cl C s3 H3 fp pins) target g∧PTs (X.comp Nc scope cl C s3 H3 fp pins) ifs tt∧PE (X.comp Nc scope cl C s3 H3 fp pins) elt te)
  (hsw:swapsWith (.ListComp elt [⟨target,iter,ifs,0⟩] scope pos) (some (.Name y py)) spos.line X.env=pure true:=by rfl)
  (hs:∀ x,foldedSetIterable iter X.env x=pure x:=by intro _; rfl):PS X (.Assign [.Name y py] (.ListComp elt [⟨target,iter,ifs,0⟩] scope pos) spos) (tCompS i wi g tt te nt js):=by
 intro pins s σ H D I h
 rw [exec_Assign_Name_used y py _ spos hsw]; refine wpAny_bind (wpAny_standAt (wpAny_bind ?_))
 show wpAny _ X.A (do let _ ← comprehension (.ListComp elt [⟨target,iter,ifs,0⟩] scope pos) scope X.env _ (newList []) false (eval iter X.env) (some (assign (.Name y py) X.env))) _ _ s
 refine wpAny_bind (wpAny_mono (wpAny_comprehension_free (use:=some (assign (.Name y py) X.env)) (Q:=fun _ s'=>SP X pins D .next s') rfl hs S.clos S.kind (names_ok S.names)
  (thn (hi pins s σ H _ I h) fun v s1 h1=>thn h1 fun itv s2 h2=>?_)) (fun _ s' hq=>wpAny_pure (wpAny_pure hq)) fun _ _ e=>e)
 obtain ⟨it,fp,tn,J,H2,e,I2,T,st2,f2,hL⟩:=h2
 subst e
 refine comp_block (RR:=fun acc C=>compPost (model X.prog X.w) X.A X.xe (some (assign (.Name y py) X.env)) (fun _ s'=>SP X pins D .next s') acc C) hcalm S I2 T st2 f2 body hL fun Da C Hf s' q I' fC hn=>?_
 obtain ⟨m,hn⟩:=hn
 obtain ⟨f0,f1,f2',f3,f4,f5⟩:=fC
 show wpAny _ X.A (assign (.Name y py) X.env (.ref Da)) _ _ _
 refine wpAny_assign_Name (store_ok2 I' hN hy (.inl hl) (v:=.ref Da) rfl (fun s'' I'' ⟨a,hsb,ha⟩=>?_) (.inr hl))
 have hCa:C≠a:=by
  rcases ha with ha | ha
  ·rw [ha]; exact f1
  ·exact fun z=>f4 _ _ ha z.symm
 refine ⟨m,hn.sameBut hsb hCa,fun h' hs'=>⟨_,Hf,I''.turned (t':=s''.toks) (fun b o hb e=>(hs'.2 b hb).trans e) f0 f1 f3 f4 f5,q⟩⟩
end
theorem comp_list {K:PySem.W.Frag} {a D:Addr} {xs:List V} {g:TG} {tt:TT} {te:TE} {σc:St} {H:Hp} {F:Hp→Prop} (Pv:Nat→St→List V→Hp→Prop) (h0:Pv 0 σc [] (upd H D (.lst [])))
  (hl:∀ i σ ys H,i≤xs.length→Pv i σ ys H→SqL K H a xs∧H D=some (.lst ys)∧ys.length≤i) (hz:xs.length≤sizeLine)
  (hs:∀ i x σ ys H,xs[i]?=some x→Pv i σ ys H→g x σ H fun σ2 H2=>tt σ2 H2 fun b H3=>if b=true then te σ2 H3 fun y H4=>H4 D=some (.lst ys)∧Pv (i + 1) σ2 (ys ++ [y]) (upd H4 D (.lst (ys ++ [y]))) else Pv (i + 1) σ2 ys H3)
  (hd:∀ σ ys H,Pv xs.length σ ys H→F H):tLoopC g tt te σc D (Itl K a) H F:=by
 refine ⟨fun i m σ ys H=>m=xs.length - i∧i≤xs.length∧Pv i σ ys H,⟨xs.length,by simp,Nat.zero_le _,h0⟩,?_⟩
 rintro i m σ ys H ⟨rfl,hi,p⟩
 obtain ⟨q,hD,hy⟩:=hl i σ ys H hi p
 refine ⟨hD,?_⟩
 by_cases hlt:i < xs.length
 ·refine .inr ⟨⟨xs,xs[i],q,by simp [hlt]⟩,by lia,Pv (i + 1),fun σ' ys' H' p'=>⟨xs.length - (i + 1),by lia,rfl,hlt,p'⟩,fun x H' y=>?_⟩
  obtain ⟨e,y⟩:=y
  subst e
  exact hs i x σ ys _ (y xs q) p
 ·have e:i=xs.length:=by lia
  subst e
  exact .inl ⟨⟨xs,q,Nat.le_refl _⟩,hd σ ys H p⟩
theorem comp_range {D:Addr} {lo:Int} {n:Nat} {g:TG} {tt:TT} {te:TE} {σc:St} {H:Hp} {F:Hp→Prop} (Pv:Nat→St→List V→Hp→Prop) (h0:Pv 0 σc [] (upd H D (.lst [])))
  (hl:∀ i σ ys H,i≤n→Pv i σ ys H→H D=some (.lst ys)∧ys.length≤i) (hz:n≤sizeLine)
  (hs:∀ i σ ys H,i < n→Pv i σ ys H→g (.int (lo + i)) σ H fun σ2 H2=>tt σ2 H2 fun b H3=>if b=true then te σ2 H3 fun y H4=>H4 D=some (.lst ys)∧Pv (i + 1) σ2 (ys ++ [y]) (upd H4 D (.lst (ys ++ [y]))) else Pv (i + 1) σ2 ys H3)
  (hd:∀ σ ys H,Pv n σ ys H→F H):tLoopC g tt te σc D (Itr lo n) H F:=by
 refine ⟨fun i m σ ys H=>m=n - i∧i≤n∧Pv i σ ys H,⟨n,by simp,Nat.zero_le _,h0⟩,?_⟩
 rintro i m σ ys H ⟨rfl,hi,p⟩
 obtain ⟨hD,hy⟩:=hl i σ ys H hi p
 refine ⟨hD,?_⟩
 by_cases hlt:i < n
 ·refine .inr ⟨hlt,by lia,Pv (i + 1),fun σ' ys' H' p'=>⟨n - (i + 1),by lia,rfl,hlt,p'⟩,fun x H' y=>?_⟩
  obtain ⟨e,y⟩:=y
  subst e y
  exact hs i σ ys _ hlt p
 ·have e:i=n:=by lia
  subst e
  exact .inl ⟨Nat.le_refl _,hd σ ys H p⟩
end L2
set_option Elab.async false
set_option linter.all false
set_option maxRecDepth 100000
set_option maxHeartbeats 4100000
namespace L2
open PySem PySem.Spec PyProof.Rows
section
variable {prog:Program} {w:World} {A:Around} {E:Value→Shared→Prop} {s:Shared}
end
end L2
set_option Elab.async false
set_option linter.all false
set_option maxRecDepth 100000
set_option maxHeartbeats 4100000
namespace L2
open PySem PySem.Spec PyProof.Rows
structure SetAt (h:Heap) (a:Addr) (es:Array (Int×Value)) (ep:Nat) (t:SetTable):Prop where
 ob:∃ o,h.get? a=some o∧o.ExactSet∧o.data=.set es ep t
 fit:t.fits es.size=true
noncomputable def SitAt (h:Heap) (it:Addr) (fs:Array Value):Prop:=∃ o,h.get? it=some o∧o.cls=.type "set_iterator"∧o.data=.fields fs
theorem SitAt.typeIs {s:Shared} {it:Addr} {fs:Array Value} (x:SitAt s.heap it fs):s.TypeIs (.ref it) "set_iterator":=let ⟨o,h1,h2,_⟩:=x; ⟨o,h1,h2⟩
theorem SitAt.upd {h:Heap} {it:Addr} {fs:Array Value} (x:SitAt h it fs) (i:Nat) (v:Value):SitAt (h.update it (Obj.mapFields (·.setIfInBounds i v))) it (fs.setIfInBounds i v):=by
 obtain ⟨o,h1,h2,h3⟩:=x
 exact ⟨_,Heap.get?_update_self _ h1 (Obj.isFreed_of_fields (Obj.data_mapFields h3 _)),(Obj.cls_mapFields ..).trans h2,Obj.data_mapFields h3 _⟩
section
variable {prog:Program} {w:World} {A:Around} {E:Value→Shared→Prop} {s:Shared}
end
end L2
set_option Elab.async false
set_option linter.all false
set_option maxRecDepth 100000
set_option maxHeartbeats 4100000
namespace L2
open PySem PySem.Spec PyProof.Rows
theorem SetAt.keep {h h':Heap} {a:Addr} {es:Array (Int×Value)} {ep:Nat} {t:SetTable} (y:SetAt h a es ep t) (k:∀ o,h.get? a=some o→h'.get? a=some o):SetAt h' a es ep t:=by
 obtain ⟨⟨o,h1,h2,h3⟩,hf⟩:=y
 exact ⟨⟨o,k o h1,h2,h3⟩,hf⟩
theorem SitAt.keep {h h':Heap} {it:Addr} {fs:Array Value} (x:SitAt h it fs) (k:∀ o,h.get? it=some o→h'.get? it=some o):SitAt h' it fs:=by
 obtain ⟨o,h1,h2,h3⟩:=x
 exact ⟨o,k o h1,h2,h3⟩
section
variable {prog:Program} {w:World} {A:Around} {E:Value→Shared→Prop} {s:Shared}
end
end L2
set_option Elab.async false
set_option linter.all false
set_option maxRecDepth 100000
set_option maxHeartbeats 4100000
namespace L2
open PySem PySem.Spec PyProof.Rows
section
variable {prog:Program} {w:World} {A:Around} {E:Value→Shared→Prop} {s:Shared}
structure SetWalk (prog:Program) (w:World) (s:Shared) (a:Addr) (es:Array (Int×Value)) (I:Addr) (h':Heap) (fp:List Addr) (vs:List Value) (St:Nat→Heap→Prop):Prop where
 old:∀ b o,s.heap.get? b=some o→h'.get? b=some o
 walks:∀ A':Around,A'.handled=none→Walks prog w A' I fp [I] es.size (fun i v=>vs[i]?=some v) St
 st:St 0 h'
 there:∀ b∈fp,b < h'.objs.size
 new:s.heap.objs.size≤I
 apart:∀ b∈fp,b=a∨s.heap.objs.size≤b
 perm:vs.Perm (es.toList.map (·.2))
end
end L2
set_option Elab.async false
set_option linter.all false
set_option maxRecDepth 100000
set_option maxHeartbeats 4100000
namespace L2
open PySem PySem.Spec PyProof.Rows
section
variable {prog:Program} {w:World} {A:Around} {E:Value→Shared→Prop} {s:Shared}
end
end L2
set_option Elab.async false
set_option linter.all false
set_option maxRecDepth 100000
set_option maxHeartbeats 4100000
namespace L2
open PySem PySem.Spec PyProof.Rows
structure StrSet (w:World) (h:Heap) (a:Addr) (es:Array (Int×Value)) (ep:Nat) (t:SetTable) (ss:List Str):Prop where
 at_:SetAt h a es ep t
 led:t.led=!(w.params.followText "set-order")
 plain:es.size=0∨t.plain=false
 txt:StrsAre (es.toList.map (·.2)) ss
 hash:∀ e∈es.toList,Ex_2_1 (fun x tk=>e=(hashStr w x,Value.str x tk))
 nd:ss.Nodup
theorem StrSet.keep {w:World} {h h':Heap} {a:Addr} {es:Array (Int×Value)} {ep:Nat} {t:SetTable} {ss:List Str} (x:StrSet w h a es ep t ss) (k:∀ o,h.get? a=some o→h'.get? a=some o):StrSet w h' a es ep t ss :=
 ⟨x.at_.keep k,x.led,x.plain,x.txt,x.hash,x.nd⟩
theorem strs_len {vs:List Value} {ss:List Str} (h:StrsAre vs ss):vs.length=ss.length:=by
 induction h with
 | nil=>rfl
 | cons _ _ r ih=>exact congrArg (· + 1) ih
theorem strs_perm:∀ {us vs:List Value},us.Perm vs→∀ {ss:List Str},StrsAre vs ss→∃ ss',StrsAre us ss'∧ss'.Perm ss:=by
 intro us vs p
 induction p with
 | nil=>intro ss h; cases h; exact ⟨[],.nil,List.Perm.refl _⟩
 | cons x _ ih =>
  intro ss h
  cases h with
  | cons y t r =>
   obtain ⟨ss',h1,h2⟩:=ih r
   exact ⟨y :: ss',.cons y t h1,h2.cons y⟩
 | swap x y l =>
  intro ss h
  cases h with
  | cons a t r =>
   cases r with
   | cons b u r2=>exact ⟨b :: a :: _,.cons b u (.cons a t r2),List.Perm.swap _ _ _⟩
 | trans _ _ ih1 ih2 =>
  intro ss h
  obtain ⟨s2,a1,a2⟩:=ih2 h
  obtain ⟨s1,b1,b2⟩:=ih1 a1
  exact ⟨s1,b1,b2.trans a2⟩
section
variable {prog:Program} {w:World} {A:Around} {E:Value→Shared→Prop} {s:Shared}
end
end L2
set_option Elab.async false
set_option linter.all false
set_option maxRecDepth 100000
set_option maxHeartbeats 4100000
namespace L2
open PySem PySem.Spec PyProof.Rows
theorem orStandIn_led (t:SetTable) (n:Nat):(t.orStandIn n).led=t.led:=by
 unfold SetTable.orStandIn
 split <;> rfl
theorem layNew_led (t:SetTable) (es:Array (Int×Value)) (h:Int) (x:Value):(layNew t es h x).2.1.led=t.led:=by
 unfold layNew
 split
 ·dsimp only
  rw [orStandIn_led]; rfl
 ·rfl
theorem relaid_is {t t':SetTable} {hs:Array Int} {n:Nat} {o:Array Nat} (h:t.relaid hs n=some (t',o)):t'.led=t.led∧t'.plain=t.plain:=by
 unfold SetTable.relaid SetTable.laid at h
 cases e:SetTable.layClean (SetTable.sizeAbove n - 1) hs with
 | none=>rw [e] at h; cases h
 | some ow =>
  rw [e] at h
  have h':=Option.some.inj h
  have h1:=congrArg (fun q:SetTable×Array Nat=>(q.1.led,q.1.plain)) h'
  have h2:(t.led,t.plain)=(t'.led,t'.plain):=h1
  exact ⟨(congrArg Prod.fst h2).symm,(congrArg Prod.snd h2).symm⟩
theorem relayAll_led (t:SetTable) (es:Array (Int×Value)) (n:Nat):(relayAll t es n).2.1.led=t.led:=by
 unfold relayAll
 split
 ·rename_i t' o e
  dsimp only
  split
  ·exact (relaid_is e).1
  ·rfl
 ·rfl
theorem relayAll_plain (t:SetTable) (es:Array (Int×Value)) (n:Nat) (hp:t.plain=false):(relayAll t es n).2.1.plain=false:=by
 unfold relayAll
 split
 ·rename_i t' o e
  dsimp only
  split
  ·exact (relaid_is e).2.trans hp
  ·rfl
 ·rfl
theorem SetAt.store {h:Heap} {a:Addr} {es es':Array (Int×Value)} {ep:Nat} {t t':SetTable} (y:SetAt h a es ep t) (hf:t'.fits es'.size=true):SetAt (h.update a (Obj.putSet es' t')) a es' (ep + 1) t':=by
 obtain ⟨⟨o,h1,h2,h3⟩,_⟩:=y
 have hg:=Heap.get?_update_self (Obj.putSet es' t') h1 (by rw [putSet_of es' t' h3]; rfl)
 rw [putSet_of es' t' h3] at hg
 exact ⟨⟨_,hg,h2,rfl⟩,hf⟩
theorem mem_strs {x:Str}:∀ {vs:List Value} {ss:List Str},StrsAre vs ss→(x∈ss ↔ ∃ v∈vs,Value.isStrOf x v=true)
 | _,_,.nil=>by simp
 | _,_,.cons y t r=>by
  rw [List.mem_cons,mem_strs r]
  constructor
  ·rintro (rfl | ⟨v,hv,e⟩)
   ·exact ⟨_,List.mem_cons_self ..,by simp [Value.isStrOf]⟩
   ·exact ⟨v,List.mem_cons_of_mem _ hv,e⟩
  ·rintro ⟨v,hv,e⟩
   rcases List.mem_cons.mp hv with rfl | hv
   ·obtain ⟨u,eu⟩:=Value.isStrOf_shape e
    injection eu with e1 _
    exact .inl e1.symm
   ·exact .inr ⟨v,hv,e⟩
section
variable {prog:Program} {w:World} {A:Around} {E:Value→Shared→Prop} {s:Shared}
theorem StrSet.elems {h:Heap} {a:Addr} {es:Array (Int×Value)} {ep:Nat} {t:SetTable} {ss:List Str} (y:StrSet w h a es ep t ss):ElemsOf (PySem.strKind prog w) es.toList:=fun e he=>by
 obtain ⟨x,tk,rfl⟩:=y.hash e he
 exact ⟨⟨x,by show Value.isStrOf x (.str x tk)=true; simp [Value.isStrOf],rfl⟩,rfl⟩
theorem StrSet.size {h:Heap} {a:Addr} {es:Array (Int×Value)} {ep:Nat} {t:SetTable} {ss:List Str} (y:StrSet w h a es ep t ss):es.size=ss.length:=by
 have:=strs_len y.txt
 simpa using this
theorem StrSet.more {h h':Heap} {a:Addr} {es es':Array (Int×Value)} {ep ep':Nat} {t t':SetTable} {ss:List Str} {x:Str} {tk:Tok} (y:StrSet w h a es ep t ss) (hx:x ∉ ss) (st:SetAt h' a es' ep' t') (hl:t'.led=t.led) (hp:t'.plain=false)
  (pm:es'.toList.Perm (es.toList ++ [(hashStr w x,.str x tk)])):∃ ss',StrSet w h' a es' ep' t' ss'∧(∀ z,z∈ss' ↔ z∈ss∨z=x)∧ss'.length=ss.length + 1:=by
 have pm2:(es'.toList.map (·.2)).Perm (es.toList.map (·.2) ++ [.str x tk]):=by
  have:=pm.map (·.2)
  rwa [List.map_append] at this
 have happ:∀ {vs:List Value} {zs:List Str},StrsAre vs zs→StrsAre (vs ++ [.str x tk]) (zs ++ [x]):=fun {vs zs} r=>by
  induction r with
  | nil=>exact .cons x tk .nil
  | cons a t _ ih=>exact .cons a t ih
 obtain ⟨ss',h1,h2⟩:=strs_perm pm2 (happ y.txt)
 refine ⟨ss',⟨st,hl.trans y.led,.inr hp,h1,fun e he=>?_,?_⟩,fun z=>?_,?_⟩
 ·rcases List.mem_append.mp (pm.mem_iff.mp he) with q | q
  ·exact y.hash e q
  ·exact ⟨x,tk,List.mem_singleton.mp q⟩
 ·exact h2.nodup_iff.mpr (nd_snoc y.nd hx)
 ·rw [h2.mem_iff,List.mem_append,List.mem_singleton]
 ·rw [h2.length_eq,List.length_append]; rfl
noncomputable def gq:Bool→Sem Unit
 | true=>rule "set.scan.the-table-gave-way"
 | false=>pure ()
theorem add_str {S:Addr} {es:Array (Int×Value)} {ep:Nat} {t:SetTable} {ss:List Str} {x:Str} {tk:Tok} {Q:Bool→Shared→Prop} (y:StrSet w s.heap S es ep t ss) (hb:ss.length + 1 < scanBound)
  (h:∀ h' es' ep' t' ss' b,Heap.SameBut S s.heap h'→StrSet w h' S es' ep' t' ss'→(∀ z,z∈ss' ↔ z∈ss∨z=x)→ss'.length≤ss.length + 1→Q b { s with heap:=h' }) :
  wpAny (model prog w) A (setAddHashed S (.str x tk) (hashStr w x)) Q E s:=by
 have hel:ElemsOf (PySem.strKind prog w) es.toList:=y.elems
 have hsz:=y.size
 obtain ⟨⟨o,g1,g2,g3⟩,hf⟩:=id y.at_
 have gw:∀ (b:Bool) {s₁:Shared} {Q':Unit→Shared→Prop} {E':Value→Shared→Prop},Q' () s₁→wpAny (model prog w) A (gq b) Q' E' s₁:=fun b s₁ Q' E' hq=>by cases b <;> first | exact wpAny_pure hq | exact wpAny_rule hq
 have hkey:(PySem.strKind prog w).is x (.str x tk)=true:=by show Value.isStrOf x (.str x tk)=true; simp [Value.isStrOf]
 unfold setAddHashed setAddHashedIn
 refine wpAny_holding (wpAny_bind (wpAny_setState_of g1 g3 hf ?_))
 dsimp only
 rw [byScan_of (knd:=PySem.strKind prog w) (x:=.str x tk) rfl (by lia) hel]
 simp only [↓reduceIte]
 unfold setAddByScan
 refine wpAny_bind (wpAny_bind (wpAny_rule (wpAny_bind (wpAny_setScan_of (knd:=PySem.strKind prog w) hkey g1 g3 hf hel ?_))))
 cases hr:List.findIdx? (fun e=>(PySem.strKind prog w).is x e.2) es.toList with
 | some j =>
  dsimp only
  obtain ⟨hj,hpj,_⟩:=List.findIdx?_eq_some_iff_getElem.mp hr
  have hx:x∈ss:=(mem_strs y.txt).mpr ⟨_,List.mem_map.mpr ⟨_,List.getElem_mem hj,rfl⟩,hpj⟩
  refine wpAny_pure (wpAny_pure ?_)
  exact h s.heap es ep t ss _ (Heap.SameBut.refl S s.heap) y (fun z=>⟨.inl,fun q=>q.elim id fun e=>e ▸ hx⟩) (Nat.le_succ _)
 | none =>
  dsimp only
  have hx:x ∉ ss:=fun hx=>by
   obtain ⟨v,hv,e⟩:=(mem_strs y.txt).mp hx
   obtain ⟨p,hp,rfl⟩:=List.mem_map.mp hv
   have:=List.findIdx?_eq_none_iff.mp hr p hp
   rw [show (PySem.strKind prog w).is x p.2=Value.isStrOf x p.2 from rfl,e] at this
   cases this
  have lp:=layNew_perm t es (hashStr w x) (.str x tk)
  have lf:=layNew_fits t es (hashStr w x) (.str x tk)
  have ll:=layNew_led t es (hashStr w x) (.str x tk)
  rw [Array.toList_push] at lp
  refine wpAny_bind (gw _ ?_)
  obtain ⟨L,hL⟩:∃ L,layNew t es (hashStr w x) (.str x tk)=L:=⟨_,rfl⟩
  rw [hL] at lp lf ll ⊢
  obtain ⟨es1,t1,wd,gv⟩:=L
  dsimp only at lp lf ll ⊢
  have hb1:es1.size < scanBound:=by
   have:=lp.length_eq
   rw [List.length_append] at this
   simp at this
   lia
  have tail:∀ {t2:SetTable} {E':Value→Shared→Prop},t2.fits es1.size=true→t2.led=t.led→t2.plain=false→wpAny (model prog w) A (do
    storeSet S es1 t2
    if (!wd && t2.tooFull)=true then do
     gq (relayAll t2 es1 (SetTable.grown es1.size)).2.2
     storeSet S (relayAll t2 es1 (SetTable.grown es1.size)).1 (relayAll t2 es1 (SetTable.grown es1.size)).2.1
     pure (some true)
    else pure (some true)) (fun (r:Option Bool) s'=>Ex_5_6 (fun h' es' ep' t' ss'=>r=some true) (fun h' es' ep' t' ss'=>s'={ s with heap:=h' }) (fun h' es' ep' t' ss'=>Heap.SameBut S s.heap h') (fun h' es' ep' t' ss'=>StrSet w h' S es' ep' t' ss') (fun h' es' ep' t' ss'=>(∀ z,z∈ss' ↔ z∈ss∨z=x)) (fun h' es' ep' t' ss'=>ss'.length=ss.length + 1)) E' s:=fun {t2 E'} f2 l2 p2=>by
   refine wpAny_bind (wpAny_storeSet_of g1 g3 ?_ (fits_of_scanBound hb1))
   have y1:=y.at_.store (es':=es1) (t':=t2) f2
   obtain ⟨⟨o1,k1,k2,k3⟩,_⟩:=id y1
   have sb1:=Heap.SameBut.update s.heap S (Obj.putSet es1 t2)
   split
   ·have rp:=relayAll_perm t2 es1 (SetTable.grown es1.size)
    have rf:=relayAll_fits t2 es1 (SetTable.grown es1.size)
    have rl:=relayAll_led t2 es1 (SetTable.grown es1.size)
    have rq:=relayAll_plain t2 es1 (SetTable.grown es1.size) p2
    have rz:(relayAll t2 es1 (SetTable.grown es1.size)).1.size=es1.size:=by rw [← Array.length_toList,rp.length_eq,Array.length_toList]
    refine wpAny_bind (gw _ ?_)
    refine wpAny_bind (wpAny_storeSet_of k1 k3 ?_ (fits_of_scanBound (by rw [rz]; exact hb1)))
    obtain ⟨ss',a1,a2,a3⟩:=y.more hx (y1.store (es':=(relayAll t2 es1 (SetTable.grown es1.size)).1) (t':=(relayAll t2 es1 (SetTable.grown es1.size)).2.1) rf) (rl.trans l2) rq (rp.trans lp)
    exact wpAny_pure ⟨_,_,_,_,ss',rfl,rfl,sb1.trans (Heap.SameBut.update _ S _),a1,a2,a3⟩
   ·obtain ⟨ss',a1,a2,a3⟩:=y.more hx y1 l2 p2 lp
    exact wpAny_pure ⟨_,_,_,_,ss',rfl,rfl,sb1,a1,a2,a3⟩
  have fin:∀ (r:Option Bool) (s':Shared),(Ex_5_6 (fun h' es' ep' t' ss'=>r=some true) (fun h' es' ep' t' ss'=>s'={ s with heap:=h' }) (fun h' es' ep' t' ss'=>Heap.SameBut S s.heap h') (fun h' es' ep' t' ss'=>StrSet w h' S es' ep' t' ss') (fun h' es' ep' t' ss'=>(∀ z,z∈ss' ↔ z∈ss∨z=x)) (fun h' es' ep' t' ss'=>ss'.length=ss.length + 1)) →
    wpAny (model prog w) A (match r with | some added=>pure added | none=>setAddHashedIn S (.str x tk) (hashStr w x) 99999) Q E s':=by
   rintro r s' ⟨h',es',ep',t',ss',rfl,rfl,a1,a2,a3,a4⟩
   exact wpAny_pure (h h' es' ep' t' ss' true a1 a2 a3 (Nat.le_of_eq a4))
  split
  ·refine wpAny_bind ?_
   rw [hashByValue_scannable 8 rfl]
   refine wpAny_pure ?_
   simp only [plainKind,Bool.false_eq_true,if_false]
   exact wpAny_mono (tail (SetTable.fits_plain_off lf) ll rfl) fin fun _ _ e=>e
  ·rename_i hpl
   refine wpAny_bind (wpAny_pure ?_)
   simp only [if_true]
   exact wpAny_mono (tail lf ll (by simpa using hpl)) fin fun _ _ e=>e
end
end L2
set_option Elab.async false
set_option linter.all false
set_option maxRecDepth 100000
set_option maxHeartbeats 4100000
namespace L2
open PySem PySem.Spec PyProof.Rows
section
variable {prog:Program} {w:World} {A:Around} {E:Value→Shared→Prop} {s:Shared}
end
end L2
set_option Elab.async false
set_option linter.all false
set_option maxRecDepth 100000
set_option maxHeartbeats 4100000
namespace L2
open PySem PySem.Spec PyProof.Rows
section
variable {X:Cx} {pins:List (Addr×Obj)} {σ:St} {H:Hp} {s:Shared} {h':Heap}
theorem Inv.turnLay {fp:List Addr} {T:Addr} {o:HO} {t':Nat} {d':Drawn} (I:Inv X pins σ H s) (hf:∀ b∈fp,FpOk X pins H b) (hT:s.heap.objs.size≤T) (k:∀ b ob,b ∉ fp→s.heap.get? b=some ob→h'.get? b=some ob)
  (new:ObjOk X.prog X.w (upd H T o) h' T o):Inv X pins σ (upd H T o) { s with heap:=h',toks:=t',drawn:=d' }:=by
 have hTn:H T=none:=I.hok.fresh hT
 have nfp:∀ b u,H b=some u→b ∉ fp:=fun b u e hb=>by rw [(hf b hb).1] at e; cases e
 have lt:∀ b ob,s.heap.get? b=some ob→b≠T:=fun b ob e=>Nat.ne_of_lt (Nat.lt_of_lt_of_le (Heap.lt_size e) hT)
 refine I.step (g':=s.gens) (d':=d') (ch:=fp) (fun b hb=>?_) (fun b ob _ _ hc e _=>k b ob hc e) (fun b ob _ _ hc e _=>⟨ob.slots,k b ob hc e⟩) (fun b ob hc e n=>by rw [upd_ne (lt b ob e)]; exact n)
  (fun b ob hc e=>⟨ob,k b ob hc e⟩) (fun b xs e=>by rw [upd_ne (ne_of_none e hTn)]; exact e) (fun b ob u e=>by rw [upd_ne (ne_of_none e hTn)]; exact e) (fun b ps e=>⟨#[],by rw [upd_ne (ne_of_none e hTn),e]; simp⟩) (fun m hm=>?_) (fun b u e=>?_) I.bare
 ·obtain ⟨_,n1,_,n3,n4,n5⟩:=hf b hb
  exact ⟨n3,n1,n4,n5⟩
 ·obtain ⟨ob,es,ep,ho,r⟩:=hm
  exact ⟨ob,es,ep,k _ ob (fun hb=>(hf _ hb).2.1 rfl) ho,r⟩
 ·by_cases hb:b=T
  ·subst hb
   rw [upd_same] at e
   cases e
   exact new
  ·rw [upd_ne hb] at e
   refine (I.hok b u e).stay (fun c v hc q=>k c v ?_ q) (fun c q=>by rw [upd_ne (ne_of_none q hTn)]; exact q) fun c xs q=>by rw [upd_ne (ne_of_none q hTn)]; exact q
   rcases hc with z | z
   ·rw [z]; exact nfp b u e
   ·exact nfp c _ z
theorem Inv.turnedL {fp:List Addr} {t':Nat} (I:Inv X pins σ H s) (hf:∀ b∈fp,FpOk X pins H b) (k:∀ b ob,b ∉ fp→s.heap.get? b=some ob→h'.get? b=some ob):Inv X pins σ H { s with heap:=h',toks:=t' }:=by
 have nfp:∀ b u,H b=some u→b ∉ fp:=fun b u e hb=>by rw [(hf b hb).1] at e; cases e
 refine I.step (g':=s.gens) (d':=s.drawn) (ch:=fp) (fun b hb=>?_) (fun b ob _ _ hc e _=>k b ob hc e) (fun b ob _ _ hc e _=>⟨ob.slots,k b ob hc e⟩) (fun b ob hc e n=>n)
  (fun b ob hc e=>⟨ob,k b ob hc e⟩) (fun b xs e=>e) (fun b ob u e=>e) (fun b ps e=>⟨#[],by rw [e]; simp⟩) (fun m hm=>?_) (fun b u e=>?_) I.bare
 ·obtain ⟨_,n1,_,n3,n4,n5⟩:=hf b hb
  exact ⟨n3,n1,n4,n5⟩
 ·obtain ⟨ob,es,ep,ho,r⟩:=hm
  exact ⟨ob,es,ep,k _ ob (fun hb=>(hf _ hb).2.1 rfl) ho,r⟩
 ·refine (I.hok b u e).stay (fun c v hc q=>k c v ?_ q) (fun _ q=>q) fun _ _ q=>q
  rcases hc with z | z
  ·rw [z]; exact nfp b u e
  ·exact nfp c _ z
end
noncomputable def Ite (K:PySem.W.Frag) (a:Addr):It :=
 ⟨fun i H=>Ex_2_2 (fun xs x=>SqL K H a xs) (fun xs x=>xs[i]?=some x),fun i H y H'=>Ex_2_4 (fun p x=>y=.ref p) (fun p x=>H p=none) (fun p x=>(∀ xs,SqL K H a xs→xs[i]?=some x)) (fun p x=>H'=upd H p (.tup [.int i,x])),fun i H=>∃ xs,SqL K H a xs∧xs.length≤i⟩
theorem turn_enum {P:Program} {w:World} {K:PySem.W.Frag} {elts:List Expr} {kk:Nat} {tpos:Pos} {a e it:Addr} (hne:e≠it) :
  Turn P w K (.Tuple elts kk tpos) (Ite K a) [e,it] e (fun i h=>(∃ old,IsEnum h e it i old)∧h.IsListIter it a i) where
 mem:=by simp
 obj:=fun i h st b hb=>by
  obtain ⟨⟨old,s1⟩,o2,s2,c2,d2⟩:=st
  rcases List.mem_cons.mp hb with z | z
  ·subst z
   exact ⟨_,s1,fun v q=>by cases q⟩
  ·rw [List.mem_singleton.mp z]
   exact ⟨o2,s2,fun v q=>by rw [d2] at q; cases q⟩
 keep:=fun i h h' st k=>⟨let ⟨old,s1⟩:=st.1; ⟨old,k e (by simp) _ s1⟩,st.2.at fun o q=>k it (by simp) o q⟩
 item:=by
  intro X hP hw hK hc i pins s σ H E I hf st hg
  subst hP hw hK
  obtain ⟨⟨old,s1⟩,s2⟩:=st
  obtain ⟨xs,x,hq,hx⟩:=hg
  obtain ⟨its,rv,p,hz⟩:=I.list hq
  obtain ⟨u,hu,ru⟩:=rv.get hx
  refine wpAny_pyNext_enum_item s1 s2 p.isList (x:=u) (by simpa using hu) hne fun h1 o1 i1 t1 z1 k1=>⟨_,rfl,?_⟩
  refine wpAny_letOwnedTupleGo_enum (s:={ s with heap:=h1,toks:=s.toks + 1 }) o1 fun h2 e2 sb=>?_
  have lt:∀ b ob,s.heap.get? b=some ob→b≠s.heap.objs.size:=fun b ob q=>Nat.ne_of_lt (Heap.lt_size q)
  have k2:∀ b ob,b ∉ [e,it]→s.heap.get? b=some ob→h2.get? b=some ob:=fun b ob hb q=>by
   have n1:b≠e:=fun z=>hb (by simp [z])
   have n2:b≠it:=fun z=>hb (by simp [z])
   exact (sb.2 b n1).trans (k1 b ob n1 n2 q)
  have eT:e≠s.heap.objs.size:=lt e _ s1
  have iT:it≠s.heap.objs.size:=let ⟨o,q,_⟩:=s2; lt it o q
  have new:ObjOk X.prog X.w (upd H s.heap.objs.size (.tup [.int i,x])) h2 s.heap.objs.size (.tup [.int i,x]) :=
   ⟨by show 2≤sizeLine; decide,[.int i s.toks,u],.cons ⟨_,rfl⟩ (.cons ru .nil),⟨_,(sb.2 _ (Ne.symm eT)).trans t1,rfl,_,rfl⟩⟩
  refine ⟨.ref s.heap.objs.size,_,I.turnLay (t':=s.toks + 1) (d':=s.drawn) hf (Nat.le_refl _) k2 new,rfl,⟨_,x,rfl,I.hok.fresh (Nat.le_refl _),fun ys hy=>by rw [I.list_inj hy hq]; exact hx,rfl⟩,⟨⟨_,by simpa using e2⟩,i1.at fun o q=>(sb.2 it hne.symm).trans q⟩,fun b hb=>?_⟩
  have hbT:b≠s.heap.objs.size:=by
   rcases List.mem_cons.mp hb with z | z
   ·rw [z]; exact eT
   ·rw [List.mem_singleton.mp z]; exact iT
  rw [upd_ne hbT]
  exact (hf b hb).1
 done:=by
  intro X hP hw hK hc i pins s σ H E I hf st hg
  subst hP hw hK
  obtain ⟨⟨old,s1⟩,s2⟩:=st
  obtain ⟨xs,hq,hx⟩:=hg
  obtain ⟨its,rv,p,hz⟩:=I.list hq
  refine wpAny_pyNext_enum_end (I.ok.hd hc) s1 s2 p.isList (by rw [List.getElem?_toArray]; exact List.getElem?_eq_none (by rw [← rv.length]; exact hx)) fun h1 k1=>⟨rfl,I.turnedL (t':=s.toks) hf fun b ob hb q=>k1 b ob (fun z=>hb (by simp [z])) q⟩
 self:=fun A i s Q E st q=>wpAny_pyIter_enum st.1.choose_spec q
noncomputable def iEnum (K:PySem.W.Frag) (ta:TA):TI:=fun σ H R=>ta σ H fun vs H1=>Ex_1_3 (fun a=>vs=[.ref a]) (fun a=>(Ex_1_1 (fun xs=>SqL K H1 a xs))) (fun a=>R (Ite K a) H1)
section
variable {X:Cx} {elts:List Expr} {kk:Nat} {tpos:Pos}
theorem pi_enum {l:Expr} {ta:TA} {p pos:Pos} (hg:Gl X "enumerate") (hm:X.mg "enumerate"=none) (ha:PA X [l] ta) (hs:starEach [l] X.env=[(false,eval l X.env)]:=by rfl):PI X (.Tuple elts kk tpos) (.Call (.Name "enumerate" p) [l] [] pos) (iEnum X.K ta):=by
 intro pins s σ H R I h
 refine Call_ (ld_blt I hg hm boot_enumerate (PyProof.Rows.callWith_type1 (thnA (ha pos pins s σ H _ I h) fun us s1 vs H1 I1 r1 q1=>?_) hs rfl))
 obtain ⟨a,rfl,⟨xs,hq⟩,q⟩:=q1
 obtain ⟨u,rfl,ru⟩:=vals1 r1
 cases ru
 obtain ⟨its,rv,pl,hz⟩:=I1.list hq
 refine call_enumerate_list pl.isList fun h1 e1 i1 z1 k1=>?_
 refine wpAny_pyIter_enum e1 ?_
 have I2:Inv X pins σ H1 { s1 with heap:=h1 }:=I1.kept (t':=s1.toks) k1
 refine ⟨s1.heap.objs.size + 1,[s1.heap.objs.size + 1,s1.heap.objs.size],_,Ite X.K a,H1,rfl,I2,turn_enum (Nat.succ_ne_self _),⟨⟨_,by simpa using e1⟩,i1⟩,fun b hb=>?_,q⟩
 rcases List.mem_cons.mp hb with z | z
 ·rw [z]; exact I1.fpOk (Nat.le_succ _) (I1.hok.fresh (Nat.le_succ _))
 ·rw [List.mem_singleton.mp z]; exact I1.fpOk (Nat.le_refl _) (I1.hok.fresh (Nat.le_refl _))
end
theorem for_enum {K:PySem.W.Frag} {a:Addr} {xs:List V} {g:TG} {tb:TS} {D:Ends} {σ:St} {H:Hp} (Pv:Nat→St→Hp→Prop) (h0:Pv 0 σ H) (hl:∀ i σ H,i≤xs.length→Pv i σ H→SqL K H a xs)
  (hs:∀ i x σ H p,xs[i]?=some x→Pv i σ H→H p=none→g (.ref p) σ (upd H p (.tup [.int i,x])) fun σ2 H2=>tb { D with nx:=Pv (i + 1),ct:=Pv (i + 1),bk:=D.nx } σ2 H2) (hd:∀ σ H,Pv xs.length σ H→D.nx σ H) :
  ∃ W:Nat→Nat→St→Hp→Prop,(∃ m,W 0 m σ H)∧∀ i m σ H,W i m σ H →
   ((Ite K a).stop i H∧D.nx σ H)∨((Ite K a).go i H∧∃ N:St→Hp→Prop,(∀ σ' H',N σ' H'→∃ m',m' < m∧W (i + 1) m' σ' H')∧∀ x H',(Ite K a).yld i H x H'→g x σ H' fun σ2 H2=>tb { D with nx:=N,ct:=N,bk:=D.nx } σ2 H2):=by
 refine ⟨fun i m σ H=>m=xs.length - i∧i≤xs.length∧Pv i σ H,⟨xs.length,by simp,Nat.zero_le _,h0⟩,?_⟩
 rintro i m σ H ⟨rfl,hi,p⟩
 have q:=hl i σ H hi p
 by_cases hlt:i < xs.length
 ·refine .inr ⟨⟨xs,xs[i],q,by simp [hlt]⟩,Pv (i + 1),fun σ' H' p'=>⟨xs.length - (i + 1),by lia,rfl,hlt,p'⟩,fun y H' hy=>?_⟩
  obtain ⟨pp,x,rfl,hn,hx,rfl⟩:=hy
  exact hs i x σ H pp (hx xs q) p hn
 ·have e:i=xs.length:=by lia
  subst e
  exact .inl ⟨⟨xs,q,Nat.le_refl _⟩,hd σ H p⟩
end L2
set_option Elab.async false
set_option linter.all false
set_option maxRecDepth 100000
set_option maxHeartbeats 4100000
namespace L2
open PySem PySem.Spec PyProof.Rows
section
variable {X:Cx} {elts:List Expr} {kk:Nat} {tpos:Pos}
end
section
variable {X:Cx}
end
end L2
set_option Elab.async false
set_option linter.all false
set_option maxRecDepth 100000
set_option maxHeartbeats 4100000
namespace L2
open PySem PySem.Spec PyProof.Rows
section
variable {X:Cx}
theorem pe_globI {x:Str} {v:V} {pos:Pos} (hg:Gl X x) (hm:∃ u,X.mg x=some u∧RelV v u) (hd:(x == ("__debug__":Str))=false:=by decide):PE X (.Name x pos) (tC v):=by
 obtain ⟨u,h1,h2⟩:=hm
 exact pe_glob hg h1 h2 hd
theorem preSum_take (ns:List Int):∀ n,n≤ns.length→preSum (fun i=>ns.getD i 0) n=(ns.take n).sum
 | 0,_=>by simp [preSum]
 | n + 1,h=>by
  have hn:n < ns.length:=by lia
  rw [preSum,preSum_take ns n (by lia),List.take_add_one,List.getElem?_eq_getElem hn,List.sum_append]
  have:ns.getD n 0=ns[n]:=by rw [List.getD_eq_getElem?_getD,List.getElem?_eq_getElem hn]; rfl
  show _ + ns.getD n 0=_
  rw [this]
  simp
theorem call_sum_ints (hcalm:X.calm=true):CallR X (.builtin "sum") (fun xs H Q=>Ex_2_3 (fun (p:Addr) (ns:List Int)=>xs=[.ref p]) (fun p ns=>SqL X.K H p (ns.map V.int)) (fun p ns=>Q (.int ns.sum) H)):=by
 intro pins s σ H xs us Q I r h
 obtain ⟨p,ns,rfl,hp,q⟩:=h
 obtain ⟨u,rfl,ru⟩:=vals1 r
 cases ru
 obtain ⟨its,rv,pl,hz⟩:=I.list hp
 have hlt:p < s.heap.objs.size:=let ⟨o,n,e,_⟩:=pl; Heap.lt_size e
 have hlen:its.length=ns.length:=by rw [← rv.length,List.length_map]
 refine call_sum_walkG (wpAny_pyIter_list pl.isList ?_)
 refine ⟨s.heap.objs.size,_,_,_,_,_,fun i=>ns.getD i 0,rfl,Walks.list (A:=X.A.in1) (I.ok.hd hcalm) _ p (Nat.ne_of_lt hlt) its.toArray,⟨⟨_,Heap.get?_push_size _ rfl,rfl,rfl⟩,pl.isList.push _⟩,fun b hb=>?_,fun i v hv=>?_,fun h' tk t' hk=>?_⟩
 ·show b < (s.heap.push _).objs.size
  rw [Heap.size_push]
  rcases List.mem_cons.mp hb with z | z
  ·rw [z]; exact Nat.lt_succ_self _
  ·rw [List.mem_singleton.mp z]; exact Nat.lt_succ_of_lt hlt
 ·have hv':its[i]?=some v:=by
   have hv2:its.toArray[i]?=some v:=hv
   rwa [List.getElem?_toArray] at hv2
  have hi:i < ns.length:=by
   have:=(List.getElem?_eq_some_iff.mp hv').1
   lia
  obtain ⟨u,hu,t,ht⟩:=rv.get (i:=i) (x:=.int ns[i]) (by rw [List.getElem?_map,List.getElem?_eq_getElem hi]; rfl)
  rw [hv'] at hu
  refine ⟨t,?_⟩
  have:ns.getD i 0=ns[i]:=by rw [List.getD_eq_getElem?_getD,List.getElem?_eq_getElem hi]; rfl
  show v=Value.int (ns.getD i 0) t
  rw [this,Option.some.inj hu]
  exact ht
 ·have e:preSum (fun i=>ns.getD i 0) its.toArray.size=ns.sum:=by
   rw [List.size_toArray,hlen,preSum_take ns _ (Nat.le_refl _),List.take_of_length_le (Nat.le_refl _)]
  rw [e]
  refine ⟨.int ns.sum,H,I.kept (t':=tk) fun b o eb=>hk b o (fun hm=>?_) (Heap.get?_push_of_some _ eb),⟨t',rfl⟩,q⟩
  have hm':=List.mem_singleton.mp hm
  exact absurd (Heap.lt_size eb) (by rw [hm']; exact Nat.lt_irrefl _)
noncomputable def rSlS:V→Option Int→Option Int→Hp→VK→Prop:=fun x lo hi H Q=>∃ z:Str,x=.str z∧z.length≤sizeLine∧Q (.str (Txt.slice z lo hi)) H
theorem sl_str:SlR X rSlS:=by
 intro pins s σ H x v vl vu lo hi sl Q I rx hs pl pu h
 obtain ⟨z,rfl,hz,q⟩:=h
 obtain ⟨t,rfl⟩:=rx
 refine ⟨"str",_,F.slot_str_getitem.lookup,typeIs_str _ _ _,?_⟩
 have fin:∀ (y:Str) (t':Tok) (k:Nat),y=Txt.slice z lo hi→EP X pins σ Q (.str y t') { s with toks:=k }:=fun y t' k e=>⟨.str y,H,I.tok k,⟨t',rfl⟩,by rw [e]; exact q⟩
 obtain ⟨o,o1,o2,o3⟩:=hs
 cases pl with
 | none =>
  cases pu with
  | none=>exact wpAny_getItem_str_slice (l:=none) (u:=none) (st:=none) ⟨o,o1,o2,o3⟩ rfl (post_val_or_str ⟨Nat.le_trans (Txt.slice_le z _ _) hz,fun t' k=>fin _ t' k rfl⟩)
  | int j uj=>exact wpAny_getItem_str_slice (l:=none) (u:=some (j,uj)) (st:=none) ⟨o,o1,o2,o3⟩ rfl (post_val_or_str ⟨Nat.le_trans (Txt.slice_le z _ _) hz,fun t' k=>fin _ t' k rfl⟩)
 | int i ui =>
  cases pu with
  | none=>exact wpAny_getItem_str_slice (l:=some (i,ui)) (u:=none) (st:=none) ⟨o,o1,o2,o3⟩ rfl (post_val_or_str ⟨Nat.le_trans (Txt.slice_le z _ _) hz,fun t' k=>fin _ t' k rfl⟩)
  | int j uj=>exact wpAny_getItem_str_slice (l:=some (i,ui)) (u:=some (j,uj)) (st:=none) ⟨o,o1,o2,o3⟩ rfl (post_val_or_str ⟨Nat.le_trans (Txt.slice_le z _ _) hz,fun t' k=>fin _ t' k rfl⟩)
end
inductive DEq (K:PySem.W.Frag) (H:Hp):Nat→V→V→Prop
 | flat {n:Nat} {x y:V}:flatV x=true→flatV y=true→eqV x y=true→DEq K H n x y
 | same {n:Nat} {p:Addr}:DEq K H n (.ref p) (.ref p)
 | lst {n:Nat} {a b:Addr} {xs ys:List V}:SqL K H a xs→SqL K H b ys→xs.length=ys.length→(∀ (i:Nat) x y,xs[i]?=some x→ys[i]?=some y→DEq K H n x y)→DEq K H (n + 1) (.ref a) (.ref b)
 | tup {n:Nat} {a b:Addr} {xs ys:List V}:SqT K H a xs→SqT K H b ys→xs.length=ys.length→(∀ (i:Nat) x y,xs[i]?=some x→ys[i]?=some y→DEq K H n x y)→DEq K H (n + 1) (.ref a) (.ref b)
theorem DEq.self {K:PySem.W.Frag} {H:Hp} {n:Nat} {x:V} (h:flatV x=true∨∃ p,x=.ref p):DEq K H n x x:=by
 rcases h with h | ⟨p,rfl⟩
 ·exact .flat h h (eqV_self h)
 ·exact .same
theorem in1_units {A:Around}:A.in1.units=A.units + 1:=rfl
section
variable {X:Cx} {pins:List (Addr×Obj)} {σ:St} {H:Hp} {s:Shared}
theorem items_at {xs:List V} {its:List Value} (r:Vals xs its) {j:Nat} (h:j < its.toArray.size):∃ x,xs[j]?=some x∧RelV x its.toArray[j]:=by
 have hj:j < its.length:=by simpa using h
 have hx:j < xs.length:=by rw [r.length]; exact hj
 obtain ⟨u,hu,ru⟩:=r.get (List.getElem?_eq_getElem hx)
 refine ⟨xs[j],List.getElem?_eq_getElem hx,?_⟩
 rw [List.getElem?_eq_getElem hj] at hu
 have:its.toArray[j]=u:=by simpa using Option.some.inj hu
 rw [this]
 exact ru
end
section
variable {X:Cx}
end
theorem hu_deep {A:Around} {k:Nat} (hr:Room k A):A.units + 10 < cLine:=by have:=hr.units; lia
theorem call_len_seqK {X:Cx} {K:PySem.W.Frag} (hK:X.K=K):CallR X (.builtin "len") (fun xs H Q=>Ex_2_3 (fun p ys=>xs=[.ref p]) (fun p ys=>(SqL K H p ys∨SqT K H p ys)) (fun p ys=>Q (.int ys.length) H)):=hK ▸ call_len_seq
theorem Same.at {H H':Hp} {D:Addr} {o:HO} (hD:H D=none) (s:Same H H'):Same H (upd H' D o):=fun b u e=>by rw [upd_ne (ne_of_none e hD)]; exact s b u e
theorem SqT.lset {K:PySem.W.Frag} {H:Hp} {a l:Addr} {xs zs ys:List V} (hl:H l=some (.lst zs)) (h:SqT K H a xs):SqT K (upd H l (.lst ys)) a xs:=by
 rcases h with (h | ⟨o,h⟩) | h
 ·exact .inl (.inl (by rw [upd_ne (ne_of h hl (by intro z; cases z))]; exact h))
 ·exact .inl (.inr ⟨o,by rw [upd_ne (ne_of h hl (by intro z; cases z))]; exact h⟩)
 ·exact .inr h
theorem SqL.other {K:PySem.W.Frag} {H:Hp} {a l:Addr} {xs:List V} {o:HO} (hne:a≠l) (h:SqL K H a xs):SqL K (upd H l o) a xs:=by
 rcases h with (h | ⟨o',h⟩) | h
 ·exact .inl (.inl (by rw [upd_ne hne]; exact h))
 ·exact .inl (.inr ⟨o',by rw [upd_ne hne]; exact h⟩)
 ·exact .inr h
end L2
set_option Elab.async false
set_option linter.all false
set_option maxRecDepth 100000
set_option maxHeartbeats 4100000
namespace L2
open PySem PySem.Spec PyProof.Rows
theorem vals_txt:∀ l:List (Str×Tok),Vals (l.map fun p=>V.str p.1) (strValues l)
 | []=>.nil
 | p :: l=>.cons ⟨p.2,rfl⟩ (vals_txt l)
theorem txt_vals:∀ {ss:List Str} {us:List Value},Vals (ss.map V.str) us→∃ l:List (Str×Tok),us=strValues l∧l.map (·.1)=ss:=by
 intro ss
 induction ss with
 | nil=>intro us r; cases r; exact ⟨[],rfl,rfl⟩
 | cons z ss ih =>
  intro us r
  cases r with
  | cons r rs =>
   obtain ⟨t,rfl⟩:=r
   obtain ⟨l,rfl,e⟩:=ih rs
   exact ⟨(z,t) :: l,rfl,by rw [List.map_cons,e]⟩
theorem partsFrom_len (x:Str) (w:Nat):∀ (cuts:List Nat) (a:Nat),(StrLaws.partsFrom x w a cuts).length=cuts.length + 1
 | [],_=>rfl
 | c :: r,a=>by
  show (StrLaws.partsFrom x w (c + w) r).length + 1=_
  rw [partsFrom_len x w r]; rfl
theorem split_len (z y:Str):(Txt.split z y).length≤z.length + 2:=by
 unfold Txt.split
 split
 ·simp
 ·split
  ·simp
  ·have h:=StrLaws.occ_length_le z y 0 z.length (z.length + 1)
   rw [StrLaws.partsBetween_eq,partsFrom_len]
   lia
section
variable {X:Cx}
noncomputable def rSplit:V→List V→Hp→VK→Prop:=fun x vs H Q=>Ex_2_5 (fun z y=>x=.str z) (fun z y=>vs=[.str y]) (fun z y=>(y.length == 0)=false) (fun z y=>z.length + 2≤sizeLine) (fun z y=>∀ l,H l=none→Q (.ref l) (upd H l (.lst ((Txt.split z y).map V.str))))
theorem mt_split:MtR X "str.split" rSplit:=by
 intro pins s σ H x vs v us Q I rx rv h
 obtain ⟨z,y,rfl,rfl,hy,hz,q⟩:=h
 obtain ⟨t,rfl⟩:=rx
 obtain ⟨u,rfl,ru⟩:=vals1 rv
 obtain ⟨t2,rfl⟩:=ru
 have hlen:=split_len z y
 have one:Txt.split z y=[z]→EP X pins σ Q (.ref s.heap.objs.size) { s with heap:=s.heap.push { cls:=.type "list",data:=.seq [Value.str z t].toArray } }:=fun e =>
  ⟨.ref s.heap.objs.size,_,I.lnew (t':=s.toks) (ys:=(Txt.split z y).map V.str) (its:=[.str z t]) (by rw [e]; exact .cons ⟨t,rfl⟩ .nil) (by rw [List.length_map]; lia),rfl,q _ I.fresh⟩
 cases h1:(decide (z.length < y.length) || decide (Builtin.Str.strKind z < Builtin.Str.strKind y)) with
 | true=>exact call_meets F.slot_str_split (typeIs_str _ _ _) F.entry_str_split (F.args_str_split_2 _ _) (meets_str_split_cannot_occur z y t t2 h1) (one (by unfold Txt.split; rw [if_pos h1]))
 | false =>
  cases hf:(Builtin.Str.occurrences z y 0 z.length (z.length + 1)).isEmpty with
  | true=>exact call_meets F.slot_str_split (typeIs_str _ _ _) F.entry_str_split (F.args_str_split_2 _ _) (meets_str_split_not_found z y t t2 h1 hy hf) (one (by unfold Txt.split; rw [if_neg (ne_true_of_eq_false h1),if_pos hf]))
  | false =>
   have e:Txt.split z y=Builtin.Str.partsBetween z (Builtin.Str.occurrences z y 0 z.length (z.length + 1)) y.length:=by
    unfold Txt.split; rw [if_neg (ne_true_of_eq_false h1),if_neg (ne_true_of_eq_false hf)]
   refine call_meets F.slot_str_split (typeIs_str _ _ _) F.entry_str_split (F.args_str_split_2 _ _) (meets_str_split_sep z y t t2 h1 hy hf (by lia) (by rw [← e]; lia)) ?_
   rw [← e,strsFrom_eq]
   refine ⟨.ref s.heap.objs.size,_,I.lnew (ys:=(Txt.split z y).map V.str) ?_ (by rw [List.length_map]; lia),rfl,q _ I.fresh⟩
   have hv:=vals_txt (numbered s.toks (Txt.split z y))
   have e2:(numbered s.toks (Txt.split z y)).map (fun p=>V.str p.1)=(Txt.split z y).map V.str:=by
    rw [← numbered_texts s.toks (Txt.split z y),List.map_map]
    rw [numbered_texts s.toks (Txt.split z y)]; rfl
   rw [e2] at hv
   exact hv
noncomputable def rJoin (K:PySem.W.Frag):V→List V→Hp→VK→Prop:=fun x vs H Q=>Ex_3_5 (fun (sep:Str) (p:Addr) (ss:List Str)=>x=.str sep) (fun sep p ss=>vs=[.ref p]) (fun sep p ss=>SqL K H p (ss.map V.str)) (fun sep p ss=>JoinOk sep ss=true) (fun sep p ss=>Q (.str (Str.join sep ss)) H)
theorem mt_join:MtR X "str.join" (rJoin X.K):=by
 intro pins s σ H x vs v us Q I rx rv h
 obtain ⟨sep,p,ss,rfl,rfl,hp,hok,q⟩:=h
 obtain ⟨t,rfl⟩:=rx
 obtain ⟨u,rfl,ru⟩:=vals1 rv
 cases ru
 obtain ⟨its,r,pl,hz⟩:=I.list hp
 obtain ⟨l,rfl,e⟩:=txt_vals r
 refine SC.join pl.isList e hok fun t' k=>⟨.str (Str.join sep ss),H,I.tok k,⟨t',?_⟩,q⟩
 show Value.str (Builtin.Str.glued sep ss) t'=_
 rw [StrLaws.glued_eq_join]
theorem joinOk_of {sep:Str} {ss:List Str} {B:Nat} (hB:∀ y∈ss,y.length≤B) (h:ss.length * B + ss.length * sep.length≤16777216):JoinOk sep ss=true:=by
 unfold JoinOk
 rw [StrLaws.joinFits hB h]; rfl
theorem mt_startswith:MtR X "str.startswith" (fun x vs H Q=>Ex_2_3 (fun z y=>x=.str z) (fun z y=>vs=[.str y]) (fun z y=>Q (.bl (Txt.startswith z y)) H)):=by
 intro pins s σ H x vs v us Q I rx rv h
 obtain ⟨z,y,rfl,rfl,q⟩:=h
 obtain ⟨t,rfl⟩:=rx
 obtain ⟨u,rfl,ru⟩:=vals1 rv
 obtain ⟨t2,rfl⟩:=ru
 exact SC.startswith ⟨.bl _,H,I,rfl,q⟩
theorem call_str_any:CallR X (.type "str") (fun xs H Q=>(∃ z,xs=[.str z]∧Q (.str z) H)∨∃ i,xs=[.int i]∧i.natAbs.log2 < 1920∧Q (.str (toString i)) H):=by
 refine CallR.or ?_ call_str_int
 intro pins s σ H xs us Q I r h
 obtain ⟨z,rfl,q⟩:=h
 obtain ⟨u,rfl,ru⟩:=vals1 r
 obtain ⟨t,rfl⟩:=ru
 exact P.str_of_str ⟨.str z,H,I,⟨t,rfl⟩,q⟩
theorem call_int_text:CallR X (.type "int") (fun xs H Q=>Ex_2_4 (fun z n=>xs=[.str z]) (fun z n=>intText? z=some n) (fun z n=>z.length≤640) (fun z n=>Q (.int n) H)):=by
 intro pins s σ H xs us Q I r h
 obtain ⟨z,n,rfl,hn,hl,q⟩:=h
 obtain ⟨u,rfl,ru⟩:=vals1 r
 obtain ⟨t,rfl⟩:=ru
 exact PySem.W.KIN.call_text hn hl ⟨.int n,H,I.tok _,⟨_,rfl⟩,q⟩
theorem call_all_bools (hcalm:X.calm=true):CallR X (.builtin "all") (fun xs H Q=>Ex_2_3 (fun (p:Addr) (bs:List Bool)=>xs=[.ref p]) (fun p bs=>SqL X.K H p (bs.map V.bl)) (fun p bs=>Q (.bl (bs.all id)) H)):=by
 intro pins s σ H xs us Q I r h
 obtain ⟨p,bs,rfl,hp,q⟩:=h
 obtain ⟨u,rfl,ru⟩:=vals1 r
 cases ru
 obtain ⟨its,rv,pl,hz⟩:=I.list hp
 have hlt:p < s.heap.objs.size:=let ⟨o,n,e,_⟩:=pl; Heap.lt_size e
 have hlen:its.length=bs.length:=by rw [← rv.length,List.length_map]
 have hrg:(List.range its.toArray.size).all (fun i=>bs.getD i false)=bs.all id:=by
  rw [List.size_toArray,hlen]
  clear hlen rv hp q hz
  induction bs with
  | nil=>rfl
  | cons b bs ih =>
   rw [List.length_cons,List.range_succ_eq_map,List.all_cons,List.all_cons,List.all_map,← ih]
   rfl
 refine call_all_walk (wpAny_pyIter_list pl.isList ?_)
 refine ⟨s.heap.objs.size,_,_,_,_,_,fun i=>bs.getD i false,rfl,Walks.list (A:=X.A.in1) (I.ok.hd hcalm) _ p (Nat.ne_of_lt hlt) its.toArray,⟨⟨_,Heap.get?_push_size _ rfl,rfl,rfl⟩,pl.isList.push _⟩,fun i v s' Q' E' hv hq=>?_,fun h' tk hk=>?_⟩
 ·have hv':its[i]?=some v:=by
   have hv2:its.toArray[i]?=some v:=hv
   rwa [List.getElem?_toArray] at hv2
  have hi:i < bs.length:=by
   have:=(List.getElem?_eq_some_iff.mp hv').1
   lia
  obtain ⟨u,hu,ht⟩:=rv.get (i:=i) (x:=.bl bs[i]) (by rw [List.getElem?_map,List.getElem?_eq_getElem hi]; rfl)
  rw [hv'] at hu
  have e:bs.getD i false=bs[i]:=by rw [List.getD_eq_getElem?_getD,List.getElem?_eq_getElem hi]; rfl
  rw [Option.some.inj hu,show u=Value.bool bs[i] from ht,← e]
  exact wpAny_truthy_bool hq
 ·rw [hrg]
  refine ⟨.bl _,H,I.kept (t':=tk) fun b o eb=>hk b o (fun hm=>?_) (Heap.get?_push_of_some _ eb),rfl,q⟩
  have hm':=List.mem_singleton.mp hm
  exact absurd (Heap.lt_size eb) (by rw [hm']; exact Nat.lt_irrefl _)
end
inductive DC (K:PySem.W.Frag) (H:Hp):Nat→V→V→Bool→Prop
 | flat {n:Nat} {x y:V}:flatV x=true→flatV y=true→DC K H n x y (eqV x y)
 | same {n:Nat} {p:Addr}:DC K H n (.ref p) (.ref p) true
 | lst {n:Nat} {a b:Addr} {xs ys:List V} (e:Nat→Bool):SqL K H a xs→SqL K H b ys→xs.length=ys.length→(∀ (i:Nat) x y,xs[i]?=some x→ys[i]?=some y→DC K H n x y (e i))→DC K H (n + 1) (.ref a) (.ref b) ((List.range xs.length).all e)
 | len {n:Nat} {a b:Addr} {xs ys:List V}:SqL K H a xs→SqL K H b ys→xs.length≠ys.length→DC K H (n + 1) (.ref a) (.ref b) false
 | tup {n:Nat} {a b:Addr} {xs ys:List V} (e:Nat→Bool):SqT K H a xs→SqT K H b ys→(∀ (i:Nat) x y,xs[i]?=some x→ys[i]?=some y→DC K H n x y (e i))→DC K H (n + 1) (.ref a) (.ref b) ((List.range (min xs.length ys.length)).all e && xs.length == ys.length)
section
variable {X:Cx} {pins:List (Addr×Obj)} {σ:St} {H:Hp} {s:Shared}
theorem DC.self_flat {K:PySem.W.Frag} {H:Hp} {n:Nat} {x y:V} {k:Bool} (d:DC K H n x y k) (e:x=y) (hx:∀ q,x≠.ref q):k=true:=by
 cases d with
 | flat f1 f2=>subst e; exact eqV_self f1
 | same=>exact absurd rfl (hx _)
 | lst e ha hb hl hi=>exact absurd rfl (hx _)
 | len ha hb hl=>exact absurd rfl (hx _)
 | tup e ha hb hi=>exact absurd rfl (hx _)
theorem DC.ref_same {K:PySem.W.Frag} {H:Hp} {n:Nat} {x y:V} {k:Bool} (d:DC K H n x y k):∀ {p:Addr},x=.ref p→y=.ref p→(∀ q xs,SqT K H q xs→∀ ys,SqT K H q ys→ys=xs)→(∀ q xs,SqL K H q xs→∀ ys,SqL K H q ys→ys=xs)→k=true:=by
 induction d with
 | @flat n x y fx fy=>intro p e1 e2 _ _; subst e1; cases fx
 | same=>intros; rfl
 | @lst n a b xs ys e ha hb hl hi ih =>
  intro p e1 e2 jt jl
  cases e1
  cases e2
  have exy:=jl _ _ ha _ hb
  subst exy
  rw [List.all_eq_true]
  intro i hi'
  have hlt:=List.mem_range.mp hi'
  by_cases hq:∃ q,ys[i]=.ref q
  ·obtain ⟨q,hx⟩:=hq
   exact ih i _ _ (List.getElem?_eq_getElem hlt) (List.getElem?_eq_getElem hlt) hx hx jt jl
  ·exact (hi i _ _ (List.getElem?_eq_getElem hlt) (List.getElem?_eq_getElem hlt)).self_flat rfl fun q h=>hq ⟨q,h⟩
 | @len n a b xs ys ha hb hl =>
  intro p e1 e2 jt jl
  cases e1
  cases e2
  exact absurd (by rw [jl _ _ ha _ hb]) hl
 | @tup n a b xs ys e ha hb hi ih =>
  intro p e1 e2 jt jl
  cases e1
  cases e2
  have exy:=jt _ _ ha _ hb
  subst exy
  rw [Nat.min_self,Bool.and_eq_true,List.all_eq_true]
  refine ⟨fun i hi'=>?_,beq_self_eq_true _⟩
  have hlt:=List.mem_range.mp hi'
  by_cases hq:∃ q,ys[i]=.ref q
  ·obtain ⟨q,hx⟩:=hq
   exact ih i _ _ (List.getElem?_eq_getElem hlt) (List.getElem?_eq_getElem hlt) hx hx jt jl
  ·exact (hi i _ _ (List.getElem?_eq_getElem hlt) (List.getElem?_eq_getElem hlt)).self_flat rfl fun q h=>hq ⟨q,h⟩
theorem dc_at {n:Nat} {x y:V} {k:Bool} (d:DC X.K H n x y k) (I:Inv X pins σ H s):∀ {A:Around} {u v:Value},RelV x u→RelV y v→A.units + n < cLine→SeqAt.EqAt A s u v k:=by
 have jt:∀ q xs,SqT X.K H q xs→∀ ys,SqT X.K H q ys→ys=xs:=fun q xs h1 ys h2=>I.tuple_inj h2 h1
 have jl:∀ q xs,SqL X.K H q xs→∀ ys,SqL X.K H q ys→ys=xs:=fun q xs h1 ys h2=>I.list_inj h2 h1
 induction d with
 | @flat n x y fx fy=>intro A u v ru rv _; exact eqAt_V (A:=A) (s:=s) ru rv fx fy
 | same=>intro A u v ru rv _; cases ru; cases rv; exact SeqAt.EqAt.same _
 | @lst n a b xs ys e ha hb hl hi ih =>
  intro A u v ru rv hu
  cases ru
  cases rv
  by_cases hab:a=b
  ·subst hab
   have e1:=(DC.lst (n:=n) e ha hb hl hi).ref_same rfl rfl jt jl
   rw [e1]; exact SeqAt.EqAt.same _
  ·obtain ⟨ia,ra,pa,_⟩:=I.list ha
   obtain ⟨ib,rb,pb,_⟩:=I.list hb
   refine SeqAt.EqAt.of_refs hab ?_
   have key:=SeqAt.RcAt.lists (A:=A) (e:=e) pa.isList pb.isList (by rw [List.size_toArray,List.size_toArray,← ra.length,← rb.length]; exact hl) (by lia) fun j h1 h2=>by
    obtain ⟨x,ex,rx⟩:=items_at ra h1
    obtain ⟨y,ey,ry⟩:=items_at rb h2
    exact ih j x y ex ey rx ry (by rw [in1_units]; lia)
   rwa [List.size_toArray,← ra.length] at key
 | @len n a b xs ys ha hb hl =>
  intro A u v ru rv hu
  cases ru
  cases rv
  have hab:a≠b:=fun z=>hl (by subst z; rw [I.list_inj ha hb])
  obtain ⟨ia,ra,pa,_⟩:=I.list ha
  obtain ⟨ib,rb,pb,_⟩:=I.list hb
  exact SeqAt.EqAt.of_refs hab (SeqAt.RcAt.lists_lengths (A:=A) pa.isList pb.isList (by rw [List.size_toArray,List.size_toArray,← ra.length,← rb.length]; exact bne_iff_ne.mpr hl) (by lia))
 | @tup n a b xs ys e ha hb hi ih =>
  intro A u v ru rv hu
  cases ru
  cases rv
  by_cases hab:a=b
  ·subst hab
   have e1:=(DC.tup (n:=n) e ha hb hi).ref_same rfl rfl jt jl
   rw [e1]; exact SeqAt.EqAt.same _
  ·obtain ⟨ia,ra,pa,_⟩:=I.tuple ha
   obtain ⟨ib,rb,pb,_⟩:=I.tuple hb
   refine SeqAt.EqAt.of_refs hab ?_
   have key:=SeqAt.RcAt.tuples (A:=A) (e:=e) (show s.heap.IsTuple a ia.toArray from pa) (show s.heap.IsTuple b ib.toArray from pb) (by lia) fun j h1 h2=>by
    obtain ⟨x,ex,rx⟩:=items_at ra h1
    obtain ⟨y,ey,ry⟩:=items_at rb h2
    exact ih j x y ex ey rx ry (by rw [in1_units]; lia)
   rwa [List.size_toArray,List.size_toArray,← ra.length,← rb.length] at key
end
section
variable {X:Cx}
inductive DT (K:PySem.W.Frag) (H:Hp):Addr→Addr→Bool→Prop
 | lst {a b:Addr} {xs ys:List V} (e:Nat→Bool):SqL K H a xs→SqL K H b ys→xs.length=ys.length→(∀ (i:Nat) x y,xs[i]?=some x→ys[i]?=some y→DC K H 8 x y (e i))→DT K H a b ((List.range xs.length).all e)
 | len {a b:Addr} {xs ys:List V}:SqL K H a xs→SqL K H b ys→xs.length≠ys.length→DT K H a b false
 | tup {a b:Addr} {xs ys:List V} (e:Nat→Bool):SqT K H a xs→SqT K H b ys→(∀ (i:Nat) x y,xs[i]?=some x→ys[i]?=some y→DC K H 8 x y (e i))→DT K H a b ((List.range (min xs.length ys.length)).all e && xs.length == ys.length)
theorem op_eqC (hu:X.A.units + 10 < cLine):OpR X (compareOp .Eq) (fun x y H Q=>Ex_3_4 (fun a b k=>x=.ref a) (fun a b k=>y=.ref b) (fun a b k=>DT X.K H a b k) (fun a b k=>Q (.bl k) H)):=by
 intro pins s σ H x y v u Q I rx ry h
 obtain ⟨a,b,k,rfl,rfl,d,q⟩:=h
 cases rx
 cases ry
 cases d with
 | @lst xs ys e ha hb hl hi =>
  obtain ⟨ia,ra,pa,_⟩:=I.list ha
  obtain ⟨ib,rb,pb,_⟩:=I.list hb
  refine SeqAt.eq_listAt (e:=e) pa.isList pb.isList (by rw [List.size_toArray,List.size_toArray,← ra.length,← rb.length]; exact hl) (by lia) (fun j h1 h2=>?_) ?_
  ·obtain ⟨x,ex,rx⟩:=items_at ra h1
   obtain ⟨y,ey,ry⟩:=items_at rb h2
   exact dc_at (hi j x y ex ey) I rx ry (by rw [in1_units]; lia)
  ·rw [List.size_toArray,← ra.length]
   exact ⟨.bl _,H,I,rfl,q⟩
 | @len xs ys ha hb hl =>
  obtain ⟨ia,ra,pa,_⟩:=I.list ha
  obtain ⟨ib,rb,pb,_⟩:=I.list hb
  exact SeqAt.eq_list_lengthsAt pa.isList pb.isList (by rw [List.size_toArray,List.size_toArray,← ra.length,← rb.length]; exact bne_iff_ne.mpr hl) (by lia) ⟨.bl _,H,I,rfl,q⟩
 | @tup xs ys e ha hb hi =>
  obtain ⟨ia,ra,pa,_⟩:=I.tuple ha
  obtain ⟨ib,rb,pb,_⟩:=I.tuple hb
  refine SeqAt.eq_tupleAt (e:=e) (show s.heap.IsTuple a ia.toArray from pa) (show s.heap.IsTuple b ib.toArray from pb) (by lia) (fun j h1 h2=>?_) ?_
  ·obtain ⟨x,ex,rx⟩:=items_at ra h1
   obtain ⟨y,ey,ry⟩:=items_at rb h2
   exact dc_at (hi j x y ex ey) I rx ry (by rw [in1_units]; lia)
  ·rw [List.size_toArray,List.size_toArray,← ra.length,← rb.length]
   exact ⟨.bl _,H,I,rfl,q⟩
theorem op_neC (hu:X.A.units + 10 < cLine):OpR X (compareOp .NotEq) (fun x y H Q=>Ex_3_4 (fun a b k=>x=.ref a) (fun a b k=>y=.ref b) (fun a b k=>DT X.K H a b k) (fun a b k=>Q (.bl (!k)) H)):=by
 intro pins s σ H x y v u Q I rx ry h
 obtain ⟨a,b,k,rfl,rfl,d,q⟩:=h
 cases rx
 cases ry
 cases d with
 | @lst xs ys e ha hb hl hi =>
  obtain ⟨ia,ra,pa,_⟩:=I.list ha
  obtain ⟨ib,rb,pb,_⟩:=I.list hb
  refine SeqAt.RcNeAt.lists (e:=e) pa.isList pb.isList (by rw [List.size_toArray,List.size_toArray,← ra.length,← rb.length]; exact hl) (by lia) (fun j h1 h2=>?_) _ _ _ _ ?_
  ·obtain ⟨x,ex,rx⟩:=items_at ra h1
   obtain ⟨y,ey,ry⟩:=items_at rb h2
   exact dc_at (hi j x y ex ey) I rx ry (by rw [in1_units]; lia)
  ·rw [List.size_toArray,← ra.length]
   exact ⟨.bl _,H,I,rfl,q⟩
 | @len xs ys ha hb hl =>
  obtain ⟨ia,ra,pa,_⟩:=I.list ha
  obtain ⟨ib,rb,pb,_⟩:=I.list hb
  exact SeqAt.RcNeAt.lists_lengths pa.isList pb.isList (by rw [List.size_toArray,List.size_toArray,← ra.length,← rb.length]; exact bne_iff_ne.mpr hl) (by lia) _ _ _ _ ⟨.bl _,H,I,rfl,q⟩
 | @tup xs ys e ha hb hi =>
  obtain ⟨ia,ra,pa,_⟩:=I.tuple ha
  obtain ⟨ib,rb,pb,_⟩:=I.tuple hb
  refine SeqAt.RcNeAt.tuples (e:=e) (show s.heap.IsTuple a ia.toArray from pa) (show s.heap.IsTuple b ib.toArray from pb) (by lia) (fun j h1 h2=>?_) _ _ _ _ ?_
  ·obtain ⟨x,ex,rx⟩:=items_at ra h1
   obtain ⟨y,ey,ry⟩:=items_at rb h2
   exact dc_at (hi j x y ex ey) I rx ry (by rw [in1_units]; lia)
  ·rw [List.size_toArray,List.size_toArray,← ra.length,← rb.length]
   exact ⟨.bl _,H,I,rfl,q⟩
end
noncomputable def shH (K:PySem.W.Frag):Hp:=fun b=>if (K.lookup b).isSome=true then none else some (.tup [])
noncomputable def KTab (K:PySem.W.Frag) (a:Addr) (D:List (Str×List Str)):Prop :=
 KTD.tabLook (KTD.datLooks fun b=>K.lookup b) (fun b=>K.lookup b) a (D.map fun p=>(p.1,KTD.Dat.tup (p.2.map PyData.str)))=true
noncomputable def KTup (K:PySem.W.Frag) (a:Addr) (ws:List Str):Prop:=KTD.datLooks (fun b=>K.lookup b) (.tup (ws.map PyData.str)) (.ref a)=true
noncomputable def inTab (D:List (Str×List Str)) (z:Str):Bool:=D.any fun p=>decide (z=p.1)
noncomputable def atTab (D:List (Str×List Str)) (z:Str):Option (List Str):=(D.find? fun p=>decide (z=p.1)).map (·.2)
section
variable {X:Cx} {pins:List (Addr×Obj)} {σ:St} {H:Hp} {s:Shared}
theorem tab_here {a:Addr} {D:List (Str×List Str)} (I:Inv X pins σ H s) (h:KTab X.K a D):KTD.Here (hidT s.heap (shH X.K)) s.heap a (D.map fun p=>(p.1,KTD.Dat.tup (p.2.map PyData.str))):=by
 refine ⟨KTD.text_of_look (fun b o e=>hidT_get (I.kIn b o e) ?_) h,fun b o e=>(of_hidT e).1⟩
 have e':X.K.lookup b=some o:=e
 unfold shH
 rw [e']; rfl
theorem in_keys (z:Str):∀ D:List (Str×List Str),KTD.inKeys z (D.map fun p=>(p.1,KTD.Dat.tup (p.2.map PyData.str)))=inTab D z
 | []=>rfl
 | p :: D=>by
  show (decide (z=p.1) || KTD.inKeys z _)=(decide (z=p.1) || inTab D z)
  rw [in_keys z D]
theorem flats_strs:∀ {ws:List Str} {vs:List Value},KTD.Flats vs (ws.map PyData.str)→Vals (ws.map V.str) vs
 | [],_,h=>by cases h; exact .nil
 | w :: ws,_,h=>by
  cases h with
  | cons h1 h2 =>
   obtain ⟨t,rfl⟩:=h1.str_inv
   exact .cons ⟨t,rfl⟩ (flats_strs h2)
end
section
variable {X:Cx}
theorem op_notInTab:OpR X (compareOp .NotIn) (fun x y H Q=>Ex_3_4 (fun z a D=>x=.str z) (fun z a D=>y=.ref a) (fun z a D=>KTab X.K a D) (fun z a D=>Q (.bl (!inTab D z)) H)):=by
 intro pins s σ H x y v u Q I rx ry h
 obtain ⟨z,a,D,rfl,rfl,hD,q⟩:=h
 obtain ⟨t,rfl⟩:=rx
 cases ry
 refine KTD.notin_text (tab_here I hD) ?_
 rw [in_keys]
 exact ⟨.bl _,H,I.tok _,rfl,q⟩
end
theorem KTup.sq {K:PySem.W.Frag} {H:Hp} {a:Addr} {ws:List Str} (h:KTup K a ws) (hn:ws.length≤1000):SqT K H a (ws.map V.str):=by
 have h1:(match K.lookup a with | some o=>o.cls == .type "tuple" && (match o.data with | .seq vs _=>KTD.flatsLook (ws.map PyData.str) vs.toList | _=>false) | none=>false)=true:=h
 cases e:K.lookup a with
 | none=>rw [e] at h1; cases h1
 | some o =>
  rw [e] at h1
  have h2:(o.cls == .type "tuple" && (match o.data with | .seq vs _=>KTD.flatsLook (ws.map PyData.str) vs.toList | _=>false))=true:=h1
  rw [Bool.and_eq_true] at h2
  obtain ⟨c,d⟩:=h2
  split at d
  ·rename_i vs n hd
   have hv:=flats_strs (KTD.flats_of_look d)
   have hlen:=hv.length
   rw [List.length_map] at hlen
   exact .inr ⟨o,vs,n,e,beq_iff_eq.mp c,hd,by rw [← Array.length_toList,← hlen]; exact Nat.le_of_lt (small1000 hn),hv⟩
  ·cases d
theorem pg_tupK {X:Cx} {K:PySem.W.Frag} {es:List Expr} {k:Nat} {t:TGs} {pos:Pos} (n:Nat) (hK:X.K=K) (hc:X.calm=true) (h:PGs X es t) (hn:(assignEach es X.env).length=n) (hst:(assignEach es X.env).findIdx? (·.1)=none) :
  PG X (.Tuple es k pos) (gTup K n t):=hK ▸ pg_tup hc h hn hst
theorem bt_all:bootBuiltins "all"=some (.builtin "all"):=by decide +kernel
theorem at0 {x:V} {xs:List V}:atI (x :: xs) 0=some x:=atI_nat (j:=0) rfl
noncomputable def tCutE (t:TE):TE:=fun σ H Q=>Ex_1_2 (fun (R:VK)=>t σ H R) (fun R=>∀ v H',R v H'→Q v H')
theorem pe_cut {X:Cx} {e:Expr} {t:TE} (h:PE X e t):PE X e (tCutE t):=fun pins s σ H Q I q=>by
 obtain ⟨R,h1,h2⟩:=q
 exact thnE (h pins s σ H R I h1) fun u s1 v H1 I1 r1 q1=>⟨v,H1,I1,r1,h2 v H1 q1⟩
theorem big_ok {n:Nat} (h:n≤200000):n < sizeLine:=by rw [sizeLine_eq]; lia
theorem split_part (z y:Str):∀ p∈Txt.split z y,p.length≤z.length:=by
 intro p hp
 unfold Txt.split at hp
 split at hp
 ·rw [List.mem_singleton.mp hp]; exact Nat.le_refl _
 ·split at hp
  ·rw [List.mem_singleton.mp hp]; exact Nat.le_refl _
  ·unfold Builtin.Str.partsBetween at hp
   obtain ⟨q,_,rfl⟩:=List.mem_map.mp hp
   exact strSub_length_le ..
noncomputable def tTab (K:PySem.W.Frag) (td ty:TE):TE:=fun σ H Q=>td σ H fun x H1=>ty σ H1 fun y H2=>Ex_4_6 (fun a D z ws=>x=.ref a) (fun a D z ws=>y=.str z) (fun a D z ws=>KTab K a D) (fun a D z ws=>atTab D z=some ws) (fun a D z ws=>ws.length≤1000) (fun a D z ws=>∀ t,SqT K H2 t (ws.map V.str)→Q (.ref t) H2)
theorem eachL_tab {h:Heap} {z:Str} {P:Value→Prop}:∀ {D:List (Str×List Str)} {ws:List Str},atTab D z=some ws→(∀ a vs,IsTup h a (List.toArray vs)→KTD.Flats vs (ws.map PyData.str)→P (.ref a)) →
  KTD.EachL h z P (D.map fun p=>(p.1,KTD.Dat.tup (p.2.map PyData.str)))
 | [],_,e,_=>by cases e
 | p :: D,ws,e,hp=>by
  unfold atTab at e
  rw [List.find?_cons] at e
  by_cases c:z=p.1
  ·rw [decide_eq_true c] at e
   have e2:p.2=ws:=Option.some.inj e
   exact KTD.eachL_hit c (KTD.opened_tup (by rw [e2]; exact hp))
  ·rw [decide_eq_false c] at e
   exact KTD.eachL_miss c (eachL_tab (D:=D) e hp)
theorem inTab_of {D:List (Str×List Str)} {z:Str} {ws:List Str} (h:atTab D z=some ws):inTab D z=true:=by
 unfold atTab at h
 unfold inTab
 cases e:D.find? fun p=>decide (z=p.1) with
 | none=>rw [e] at h; cases h
 | some p =>
  have h2:=List.find?_some e
  exact List.any_eq_true.mpr ⟨p,List.mem_of_find?_eq_some e,h2⟩
theorem pe_tab {X:Cx} {o i:Expr} {td ty:TE} {pos:Pos} (ho:PE X o td) (hi:PE X i ty) (hs:PlainIx i) (hg:∀ (a:Addr) (r:Value),letTemporaryGo o (.ref a) r=pure ():=by intro _ _; with_unfolding_all rfl) :
  PE X (.Subscript o i pos) (tTab X.K td ty):=by
 intro pins s σ H Q I h
 refine Subscript_ (binT ho hi I h fun v u s2 x y H2 I2 rx ry q=>?_)
 obtain ⟨a,D,z,ws,rfl,rfl,hD,hz,hn,q⟩:=q
 cases rx
 obtain ⟨t,rfl⟩:=ry
 refine KTD.item_text (tab_here I2 hD) ((in_keys z D).trans (inTab_of hz)) (eachL_tab hz fun b vs hb hv=>?_) (hs _ _) (hg a)
 obtain ⟨ob,e1,c1,n1,d1⟩:=hb
 obtain ⟨e2,e3⟩:=of_hidT e1
 have hk:X.K.lookup b=some ob:=by
  unfold shH at e3
  cases e4:X.K.lookup b with
  | none=>rw [e4,if_neg (by decide)] at e3; cases e3
  | some ob' =>
   have:=I2.kIn b ob' e4
   rw [this] at e2
   exact e2
 have hvs:=flats_strs hv
 have hlen:vs.length=ws.length:=by rw [← hvs.length,List.length_map]
 exact ⟨.ref b,H2,I2.tok _,rfl,q b (.inr ⟨ob,vs.toArray,n1,hk,c1,d1,by rw [List.size_toArray,hlen]; exact Nat.le_of_lt (small1000 hn),hvs⟩)⟩
end L2
set_option Elab.async false
set_option linter.all false
set_option maxRecDepth 100000
set_option maxHeartbeats 4100000
namespace L2
open PySem PySem.Spec PyProof.Rows
noncomputable def Itx (z:Str):It:=⟨fun i _=>i < z.cps.size,fun i H x H'=>H'=H∧∃ c,z.cps[i]?=some c∧x=.str ⟨#[c]⟩,fun i _=>z.cps.size≤i⟩
theorem turn_text {P:Program} {w:World} {K:PySem.W.Frag} {tg:Expr} {nm:String} (hnm:nm="str_ascii_iterator"∨nm="str_iterator") (it:Addr) (z:Str) (t:Tok):Turn P w K tg (Itx z) [it] it (fun i h=>h.IsStrIter it nm z t i) where
 mem:=List.mem_singleton.mpr rfl
 obj:=fun i h st b hb=>by
  obtain ⟨o,e,c,d⟩:=st
  rw [List.mem_singleton.mp hb]
  exact ⟨o,e,fun v q=>by rw [d] at q; cases q⟩
 keep:=fun i h h' st k=>let ⟨o,e,r⟩:=st; ⟨o,k it (List.mem_singleton.mpr rfl) o e,r⟩
 item:=by
  intro X hP hw hK hc i pins s σ H E I hf st hg
  subst hP hw hK
  obtain ⟨f0,f1,f2,f3,f4,f5⟩:=hf it (List.mem_singleton.mpr rfl)
  have hi:i < z.cps.size:=hg
  have hx:z.cps[i]?=some z.cps[i]:=by simp [hi]
  rcases hnm with rfl | rfl
  ·refine wpAny_pyNext_ascii_item st hx fun h' st' sb=>?_
   have I1:Inv X pins σ H { s with heap:=h',toks:=s.toks + 1 }:=I.turned (fun b o hb e=>(sb.2 b hb).trans e) f0 f1 f3 f4 f5
   obtain ⟨o,e,c,d⟩:=id st'
   exact ⟨_,rfl,go_of (s:={ s with heap:=h',toks:=s.toks + 1 }) e c d (by decide) ⟨.str ⟨#[z.cps[i]]⟩,H,I1,⟨_,rfl⟩,⟨rfl,_,hx,rfl⟩,st',fun b hb=>(hf b hb).1⟩⟩
  ·refine wpAny_pyNext_wide_item st hx fun h' st' sb=>?_
   have I1:Inv X pins σ H { s with heap:=h',toks:=s.toks + 1 }:=I.turned (fun b o hb e=>(sb.2 b hb).trans e) f0 f1 f3 f4 f5
   obtain ⟨o,e,c,d⟩:=id st'
   exact ⟨_,rfl,go_of (s:={ s with heap:=h',toks:=s.toks + 1 }) e c d (by decide) ⟨.str ⟨#[z.cps[i]]⟩,H,I1,⟨_,rfl⟩,⟨rfl,_,hx,rfl⟩,st',fun b hb=>(hf b hb).1⟩⟩
 done:=by
  intro X hP hw hK hc i pins s σ H E I hf st hg
  subst hP hw hK
  obtain ⟨f0,f1,f2,f3,f4,f5⟩:=hf it (List.mem_singleton.mpr rfl)
  have hi:z.cps.size≤i:=hg
  have hx:z.cps[i]?=none:=by simp [hi]
  rcases hnm with rfl | rfl
  ·exact wpAny_pyNext_ascii_end (I.ok.hd hc) st hx fun h' eb=>⟨rfl,I.turned (t':=s.toks) (fun b o hb e=>eb b o hb e) f0 f1 f3 f4 f5⟩
  ·exact wpAny_pyNext_wide_end (I.ok.hd hc) st hx fun h' eb=>⟨rfl,I.turned (t':=s.toks) (fun b o hb e=>eb b o hb e) f0 f1 f3 f4 f5⟩
 self:=by
  intro A i s Q E st q
  rcases hnm with rfl | rfl
  ·exact wpAny_pyIter_striter_ascii st q
  ·exact wpAny_pyIter_striter_wide st q
noncomputable def iText (tl:TE):TI:=fun σ H R=>tl σ H fun x H1=>∃ z,x=.str z∧R (Itx z) H1
theorem pi_text {X:Cx} {tg l:Expr} {tl:TE} (hl:PE X l tl):PI X tg l (iText tl):=by
 intro pins s σ H R I h
 refine thnE (hl pins s σ H _ I h) fun v s1 x H1 I1 r1 qz1=>?_
 obtain ⟨z,e,q⟩:=qz1
 subst e
 obtain ⟨t,rfl⟩:=r1
 have fin:∀ nm:String,nm="str_ascii_iterator"∨nm="str_iterator"→PIE X pins σ tg R (.ref s1.heap.objs.size) { s1 with heap:=s1.heap.push { cls:=.type nm,data:=.fields #[.str z t,.int 0 0] } }:=fun nm hnm=>by
  refine ⟨s1.heap.objs.size,[s1.heap.objs.size],_,_,H1,rfl,I1.kept (t':=s1.toks) fun b o e=>Heap.get?_push_of_some _ e,turn_text hnm _ z t,⟨_,Heap.get?_push_size _ rfl,rfl,rfl⟩,fun b hb=>?_,q⟩
  rw [List.mem_singleton.mp hb]
  exact I1.fpOk (Nat.le_refl _) (I1.hok.fresh (Nat.le_refl _))
 cases ha:z.cps.all (· < 128) with
 | true=>exact wpAny_pyIter_ascii ha (fin _ (.inl rfl))
 | false=>exact wpAny_pyIter_wide ha (fin _ (.inr rfl))
theorem comp_text {D:Addr} {z:Str} {g:TG} {tt:TT} {te:TE} {σc:St} {H:Hp} {F:Hp→Prop} (Pv:Nat→St→List V→Hp→Prop) (h0:Pv 0 σc [] (upd H D (.lst [])))
  (hl:∀ i σ ys H,i≤z.cps.size→Pv i σ ys H→H D=some (.lst ys)∧ys.length≤i) (hz:z.cps.size≤sizeLine)
  (hs:∀ i c σ ys H,z.cps[i]?=some c→Pv i σ ys H→g (.str ⟨#[c]⟩) σ H fun σ2 H2=>tt σ2 H2 fun b H3=>if b=true then te σ2 H3 fun y H4=>H4 D=some (.lst ys)∧Pv (i + 1) σ2 (ys ++ [y]) (upd H4 D (.lst (ys ++ [y]))) else Pv (i + 1) σ2 ys H3)
  (hd:∀ σ ys H,Pv z.cps.size σ ys H→F H):tLoopC g tt te σc D (Itx z) H F:=by
 refine ⟨fun i m σ ys H=>m=z.cps.size - i∧i≤z.cps.size∧Pv i σ ys H,⟨z.cps.size,by simp,Nat.zero_le _,h0⟩,?_⟩
 rintro i m σ ys H ⟨rfl,hi,p⟩
 obtain ⟨hD,hy⟩:=hl i σ ys H hi p
 refine ⟨hD,?_⟩
 by_cases hlt:i < z.cps.size
 ·refine .inr ⟨hlt,by lia,Pv (i + 1),fun σ' ys' H' p'=>⟨z.cps.size - (i + 1),by lia,rfl,hlt,p'⟩,fun x H' y=>?_⟩
  obtain ⟨e,c,hc,rfl⟩:=y
  subst e
  exact hs i c σ ys _ hc p
 ·have e:i=z.cps.size:=by lia
  subst e
  exact .inl ⟨Nat.le_refl _,hd σ ys H p⟩
theorem comp_tup {K:PySem.W.Frag} {a D:Addr} {xs:List V} {g:TG} {tt:TT} {te:TE} {σc:St} {H:Hp} {F:Hp→Prop} (Pv:Nat→St→List V→Hp→Prop) (h0:Pv 0 σc [] (upd H D (.lst [])))
  (hl:∀ i σ ys H,i≤xs.length→Pv i σ ys H→SqT K H a xs∧H D=some (.lst ys)∧ys.length≤i) (hz:xs.length≤sizeLine)
  (hs:∀ i x σ ys H,xs[i]?=some x→Pv i σ ys H→g x σ H fun σ2 H2=>tt σ2 H2 fun b H3=>if b=true then te σ2 H3 fun y H4=>H4 D=some (.lst ys)∧Pv (i + 1) σ2 (ys ++ [y]) (upd H4 D (.lst (ys ++ [y]))) else Pv (i + 1) σ2 ys H3)
  (hd:∀ σ ys H,Pv xs.length σ ys H→F H):tLoopC g tt te σc D (Itt K a) H F:=by
 refine ⟨fun i m σ ys H=>m=xs.length - i∧i≤xs.length∧Pv i σ ys H,⟨xs.length,by simp,Nat.zero_le _,h0⟩,?_⟩
 rintro i m σ ys H ⟨rfl,hi,p⟩
 obtain ⟨q,hD,hy⟩:=hl i σ ys H hi p
 refine ⟨hD,?_⟩
 by_cases hlt:i < xs.length
 ·refine .inr ⟨⟨xs,xs[i],q,by simp [hlt]⟩,by lia,Pv (i + 1),fun σ' ys' H' p'=>⟨xs.length - (i + 1),by lia,rfl,hlt,p'⟩,fun x H' y=>?_⟩
  obtain ⟨e,y⟩:=y
  subst e
  exact hs i x σ ys _ (y xs q) p
 ·have e:i=xs.length:=by lia
  subst e
  exact .inl ⟨⟨xs,q,Nat.le_refl _⟩,hd σ ys H p⟩
end L2
set_option Elab.async false
set_option linter.all false
set_option maxRecDepth 100000
set_option maxHeartbeats 4100000
namespace L2
open PySem PySem.Spec PyProof.Rows
section
variable {prog:Program} {w:World} {A:Around} {E:Value→Shared→Prop} {s:Shared}
theorem nextOf_tup {it t:Addr} {i:Nat} {zs:Array Value} {y:Value} {Q:Value→Shared→Prop} (g:s.heap.IsTupleIter it t i) (gt:s.heap.IsTuple t zs) (gy:zs[i]?=some y)
  (q:∀ h',h'.IsTupleIter it t (i + 1)→Heap.SameBut it s.heap h'→Q y { s with heap:=h' }):wpAny (model prog w) A (Builtin.SmallTypes.nextOf (.ref it)) Q E s:=by
 obtain ⟨o,e1,c1,d1⟩:=id g
 obtain ⟨oo,e2,_,m,d2⟩:=gt
 unfold Builtin.SmallTypes.nextOf
 refine wpAny_bind (wpAny_callSpecial?_slot (name:=Str.ofString "__next__") g.typeIs F.slot_tuple_iterator_next (wpAny_call_entry F.slot_tuple_iterator_next g.typeIs F.entry_tuple_iterator_next ?_ (F.args_tuple_iterator_next_1 _)))
 show wpAny _ _ (field (.ref it) 0 >>= _) _ _ s; refine wpAny_bind (wpAny_field e1 d1 (x:=.ref t) rfl ?_)
 show wpAny _ _ (if (Value.ref t == Value.none)=true then _ else _) _ _ s; rw [if_neg (show ¬ ((Value.ref t == Value.none)=true) from Bool.false_ne_true)]
 show wpAny _ _ (field (.ref it) 1 >>= _) _ _ s; refine wpAny_bind (wpAny_field e1 d1 (x:=.int i 0) rfl ?_)
 show wpAny _ _ (seqItems? (.ref t) >>= _) _ _ s; refine wpAny_bind (wpAny_seqItems e2 d2 ?_)
 simp only [Int.toNat_natCast,gy]
 refine wpAny_bind (wpAny_setField e1 d1 (by simp) (wpAny_pure ⟨y,rfl,wpAny_pure (q _ ⟨_,Heap.get?_update_self _ e1 (Obj.isFreed_of_fields (Obj.data_mapFields d1 _)),(Obj.cls_mapFields ..).trans c1,?_⟩ (Heap.SameBut.update ..))⟩))
 rw [Obj.data_mapFields d1]; simp [rawInt]
theorem zipT_item {z TI TO i1 i2 l t:Addr} {k1 k2:Nat} {xs ys:Array Value} {x y a b:Value} {Q:Value→Shared→Prop} (D:ZipApart z TI TO i1 i2 l t)
  (gz:IsZip s.heap z TI TO .none) (gI:IsPair s.heap TI (.ref i1) (.ref i2)) (gO:IsPair s.heap TO a b) (g1:s.heap.IsListIter i1 l k1) (g2:s.heap.IsTupleIter i2 t k2) (gl:s.heap.IsList l xs) (gt:s.heap.IsTuple t ys) (ex:xs[k1]?=some x) (ey:ys[k2]?=some y)
  (q:∀ h',IsZip h' z TI TO (rawInt s.heap.objs.size)→IsPair h' TO x y→h'.IsListIter i1 l (k1 + 1)→h'.IsTupleIter i2 t (k2 + 1)→IsPair h' s.heap.objs.size x y→h'.objs.size=s.heap.objs.size + 1 →
   (∀ c o,c≠z→c≠TO→c≠i1→c≠i2→s.heap.get? c=some o→h'.get? c=some o)→Q (.ref s.heap.objs.size) { s with heap:=h' }) :
  wpAny (model prog w) A (Builtin.«zip.__next__» ⟨[.ref z],[]⟩) (fun fin s'=>∃ v,fin=.done (.ret v)∧Q v s') E s:=by
 show wpAny _ _ (field (.ref z) 2 >>= _) _ _ _; refine wpAny_bind (wpAny_field gz rfl (x:=.bool false) rfl ?_)
 show wpAny _ _ (field (.ref z) 3 >>= _) _ _ _; refine wpAny_bind (wpAny_field gz rfl (x:=.ref TI) rfl (wpAny_bind (wpAny_seqItems gI rfl ?_)))
 show wpAny _ _ (Builtin.SmallTypes.ownedTupleIsFree (.ref z) >>= _) _ _ _; refine wpAny_bind ?_
 unfold Builtin.SmallTypes.ownedTupleIsFree; refine wpAny_bind (wpAny_field gz rfl (x:=.none) rfl (wpAny_pure ?_))
 simp only [if_true]; refine wpAny_bind (wpAny_rule (wpAny_bind (wpAny_field gz rfl (x:=.ref TO) rfl (wpAny_bind (wpAny_setField_rec gz (by simp) fun ha za sa=>?_)))))
 replace za:IsZip ha z TI TO .ellipsis:=za
 refine wpAny_bind ?_; simp only [List.zipIdx_cons,List.zipIdx_nil,List.forIn_cons,List.forIn_nil]
 refine wpAny_bind (wpAny_bind (wpAny_onRaise ?_)); show wpAny _ _ (Builtin.SmallTypes.nextOf (.ref i1) >>= _) _ _ _
 refine wpAny_bind (wpAny_nextOf_list_item (g1.extBut sa.extBut D.i1z) (gl.extBut sa.extBut D.l1z) ex fun hb b1 sb=>wpAny_pure ?_)
 have Ob:IsPair hb TO a b:=sb.extBut _ _ D.TOi1 (sa.extBut _ _ D.TOz gO)
 refine wpAny_bind (wpAny_seqItems Ob rfl (wpAny_bind (wpAny_updateSeq_pair Ob fun hc Oc sc=>?_)))
 replace Oc:IsPair hc TO x b:=Oc
 refine wpAny_bind (wpAny_letGo (wpAny_pure (wpAny_bind (wpAny_bind (wpAny_onRaise ?_))))); show wpAny _ _ (Builtin.SmallTypes.nextOf (.ref i2) >>= _) _ _ _
 have g2c:hc.IsTupleIter i2 t k2:=g2.at fun o e=>sc.extBut _ _ D.TOi2.symm (sb.extBut _ _ D.i12.symm (sa.extBut _ _ D.i2z e))
 have gtc:hc.IsTuple t ys:=gt.at fun o e=>sc.extBut _ _ D.l2TO (sb.extBut _ _ D.l2i1 (sa.extBut _ _ D.l2z e))
 refine wpAny_bind (nextOf_tup (s:={ s with heap:=hc }) g2c gtc ey fun hd d2 sd=>wpAny_pure ?_)
 have Od:IsPair hd TO x b:=sd.extBut _ _ D.TOi2 Oc
 refine wpAny_bind (wpAny_seqItems Od rfl (wpAny_bind (wpAny_updateSeq_pair Od fun he Oe se=>?_)))
 replace Oe:IsPair he TO x y:=Oe
 refine wpAny_bind (wpAny_letGo (wpAny_pure (wpAny_pure (wpAny_bind (wpAny_seqItems Oe rfl (wpAny_bind (wpAny_newTuple ?_)))))))
 have sz:he.objs.size=s.heap.objs.size:=by rw [se.1,sd.1,sc.1,sb.1,sa.1]
 have ze:IsZip he z TI TO .ellipsis:=se.extBut _ _ D.TOz.symm (sd.extBut _ _ D.i2z.symm (sc.extBut _ _ D.TOz.symm (sb.extBut _ _ D.i1z.symm za)))
 have ke:∀ c o,c≠z→c≠TO→c≠i1→c≠i2→s.heap.get? c=some o→he.get? c=some o:=fun c o n1 n2 n3 n4 e =>
  se.extBut _ _ n2 (sd.extBut _ _ n4 (sc.extBut _ _ n2 (sb.extBut _ _ n3 (sa.extBut _ _ n1 e))))
 have e1:he.IsListIter i1 l (k1 + 1):=((b1.extBut sc.extBut D.TOi1.symm).extBut sd.extBut D.i12).extBut se.extBut D.TOi1.symm
 have e2:he.IsTupleIter i2 t (k2 + 1):=d2.at fun o e=>se.extBut _ _ D.TOi2.symm e
 have zlt:z < he.objs.size:=Heap.lt_size ze
 show wpAny _ _ (Builtin.SmallTypes.ownedTupleHandOut (.ref z) (.ref he.objs.size) >>= _) _ _ _; refine wpAny_bind ?_
 unfold Builtin.SmallTypes.ownedTupleHandOut
 have zf:IsZip (he.push { cls:=.type "tuple",data:=.seq #[x,y] }) z TI TO .ellipsis:=Heap.get?_push_of_some _ ze
 refine wpAny_bind (wpAny_setField_rec zf (by simp) fun hg zg sg=>?_)
 replace zg:IsZip hg z TI TO (rawInt he.objs.size):=zg
 refine wpAny_setField_rec zg (by simp) fun hi zi si=>?_
 replace zi:IsZip hi z TI TO (rawInt he.objs.size):=zi
 have up:∀ c o,c≠z→he.get? c=some o→hi.get? c=some o:=fun c o n1 e=>si.extBut _ _ n1 (sg.extBut _ _ n1 (Heap.get?_push_of_some _ e))
 have Ti:IsPair hi he.objs.size x y:=si.extBut _ _ (Nat.ne_of_gt zlt) (sg.extBut _ _ (Nat.ne_of_gt zlt) (Heap.get?_push_size _ rfl))
 have zsz:hi.objs.size=he.objs.size + 1:=by rw [si.1,sg.1,Heap.size_push]
 rw [sz] at zi Ti zsz
 refine wpAny_pure ⟨_,rfl,?_⟩
 show Q (.ref he.objs.size) _; rw [sz]
 exact q hi zi (up _ _ D.TOz Oe) (e1.at fun o e=>up _ o D.i1z e) (e2.at fun o e=>up _ o D.i2z e) Ti zsz fun c o n1 n2 n3 n4 e=>up c o n1 (ke c o n1 n2 n3 n4 e)
theorem zipT_end {z TI TO i1 i2 l t:Addr} {k1:Nat} {xs:Array Value} {a b:Value} {Q:Fin→Shared→Prop} (hh:A.handled=none) (D:ZipApart z TI TO i1 i2 l t)
  (gz:IsZip s.heap z TI TO .none) (gI:IsPair s.heap TI (.ref i1) (.ref i2)) (gO:IsPair s.heap TO a b) (g1:s.heap.IsListIter i1 l k1) (gl:s.heap.IsList l xs) (ex:xs[k1]?=none)
  (q:∀ h' e,(∀ c o,c≠z→c≠TO→c≠i1→c≠i2→s.heap.get? c=some o→h'.get? c=some o)→(∃ o,h'.get? e=some o∧o.cls=.type "StopIteration")→E (.ref e) { s with heap:=h' }) :
  wpAny (model prog w) A (Builtin.«zip.__next__» ⟨[.ref z],[]⟩) Q E s:=by
 show wpAny _ _ (field (.ref z) 2 >>= _) _ _ _; refine wpAny_bind (wpAny_field gz rfl (x:=.bool false) rfl ?_)
 show wpAny _ _ (field (.ref z) 3 >>= _) _ _ _; refine wpAny_bind (wpAny_field gz rfl (x:=.ref TI) rfl (wpAny_bind (wpAny_seqItems gI rfl ?_)))
 show wpAny _ _ (Builtin.SmallTypes.ownedTupleIsFree (.ref z) >>= _) _ _ _; refine wpAny_bind ?_
 unfold Builtin.SmallTypes.ownedTupleIsFree; refine wpAny_bind (wpAny_field gz rfl (x:=.none) rfl (wpAny_pure ?_))
 simp only [if_true]; refine wpAny_bind (wpAny_rule (wpAny_bind (wpAny_field gz rfl (x:=.ref TO) rfl (wpAny_bind (wpAny_setField_rec gz (by simp) fun ha za sa=>?_)))))
 replace za:IsZip ha z TI TO .ellipsis:=za
 refine wpAny_bind ?_; simp only [List.zipIdx_cons,List.zipIdx_nil,List.forIn_cons,List.forIn_nil]
 refine wpAny_bind (wpAny_bind (wpAny_onRaise ?_)); show wpAny _ _ (Builtin.SmallTypes.nextOf (.ref i1) >>= _) _ _ _
 refine wpAny_bind (wpAny_nextOf_list_end hh (g1.extBut sa.extBut D.i1z) (gl.extBut sa.extBut D.l1z) ex fun hb e sb he=>?_)
 obtain ⟨oe,eo,ec⟩:=he
 have zb:IsZip hb z TI TO .ellipsis:=sb _ _ D.i1z.symm za
 have ne:e≠z:=fun j=>by subst j; rw [zb] at eo; cases eo; simp at ec
 exact wpAny_setField_rec zb (by simp) fun hc _ sc=>q hc e (fun c o n1 _ n3 _ j=>sc.extBut _ _ n1 (sb _ _ n3 (sa.extBut _ _ n1 j))) ⟨oe,sc.extBut _ _ ne eo,ec⟩
theorem next_zipT {z TI TO i1 i2 l t:Addr} {k1 k2:Nat} {xs ys:Array Value} {x y a b:Value} {Q:Option Value→Shared→Prop} (D:ZipApart z TI TO i1 i2 l t)
  (gz:IsZip s.heap z TI TO .none) (gI:IsPair s.heap TI (.ref i1) (.ref i2)) (gO:IsPair s.heap TO a b) (g1:s.heap.IsListIter i1 l k1) (g2:s.heap.IsTupleIter i2 t k2) (gl:s.heap.IsList l xs) (gt:s.heap.IsTuple t ys) (ex:xs[k1]?=some x) (ey:ys[k2]?=some y)
  (q:∀ h',IsZip h' z TI TO (rawInt s.heap.objs.size)→IsPair h' TO x y→h'.IsListIter i1 l (k1 + 1)→h'.IsTupleIter i2 t (k2 + 1)→IsPair h' s.heap.objs.size x y→h'.objs.size=s.heap.objs.size + 1 →
   (∀ c o,c≠z→c≠TO→c≠i1→c≠i2→s.heap.get? c=some o→h'.get? c=some o)→Q (some (.ref s.heap.objs.size)) { s with heap:=h' }):wpAny (model prog w) A (pyNext (.ref z)) Q E s:=by
 have T:s.TypeIs (.ref z) "zip":=⟨_,gz,rfl⟩
 unfold pyNext
 exact wpAny_bind (wpAny_attempt (wpAny_callSpecial?_slot (name:=Str.ofString "__next__") T F.slot_zip_next (wpAny_call_entry F.slot_zip_next T F.entry_zip_next (zipT_item D gz gI gO g1 g2 gl gt ex ey fun h' a1 a2 a3 a4 a5 a6 a7=>wpAny_pure (q h' a1 a2 a3 a4 a5 a6 a7)) (F.args_zip_next_1 _))))
theorem next_zipT_end {z TI TO i1 i2 l t:Addr} {k1:Nat} {xs:Array Value} {a b:Value} {Q:Option Value→Shared→Prop} (hh:A.handled=none) (D:ZipApart z TI TO i1 i2 l t)
  (gz:IsZip s.heap z TI TO .none) (gI:IsPair s.heap TI (.ref i1) (.ref i2)) (gO:IsPair s.heap TO a b) (g1:s.heap.IsListIter i1 l k1) (gl:s.heap.IsList l xs) (ex:xs[k1]?=none)
  (q:∀ h',(∀ c o,c≠z→c≠TO→c≠i1→c≠i2→s.heap.get? c=some o→h'.get? c=some o)→Q none { s with heap:=h' }):wpAny (model prog w) A (pyNext (.ref z)) Q E s:=by
 have T:s.TypeIs (.ref z) "zip":=⟨_,gz,rfl⟩
 unfold pyNext
 refine wpAny_bind (wpAny_attempt (wpAny_callSpecial?_slot (name:=Str.ofString "__next__") T F.slot_zip_next (wpAny_call_entry F.slot_zip_next T F.entry_zip_next (zipT_end hh D gz gI gO g1 gl ex fun h' e k he=>?_) (F.args_zip_next_1 _))))
 obtain ⟨o,ho,hc⟩:=he
 exact wpAny_bind (wpAny_isInstance (T:="StopIteration") (b:=true) ⟨o,ho,hc⟩ isSubtype_stop (wpAny_pure (q _ k)))
end
noncomputable abbrev zt1 (h:Heap) (l:Addr):Heap:=h.push { cls:=.type "list_iterator",data:=.fields #[.ref l,.int 0 0] }
noncomputable abbrev zt2 (h:Heap) (l t:Addr):Heap:=(zt1 h l).push { cls:=.type "tuple_iterator",data:=.fields #[.ref t,.int 0 0] }
noncomputable abbrev zt3 (h:Heap) (l t:Addr):Heap:=(zt2 h l t).push { cls:=.type "tuple",data:=.seq #[.ref h.objs.size,.ref (zt1 h l).objs.size] }
noncomputable abbrev zt4 (h:Heap) (l t:Addr):Heap:=(zt3 h l t).push { cls:=.type "tuple",data:=.seq #[.none,.none] }
noncomputable abbrev zt5 (h:Heap) (l t:Addr):Heap:=(zt4 h l t).push { cls:=.type "zip",data:=.fields #[.none,.bool false,.bool false,.ref (zt2 h l t).objs.size,.ref (zt3 h l t).objs.size] }
theorem zipT_new (l t:Addr) (xs ys:Array Value):Meets (Builtin.«zip.__new__» ⟨[.type "zip",.ref l,.ref t],[]⟩) (fun _ R s=>s.heap.IsList l xs∧s.heap.IsTuple t ys∧R (.ok (.ret (.ref (zt4 s.heap l t).objs.size))) { s with heap:=zt5 s.heap l t }) :=
 .of_wp fun prog w A R s h=>by
  obtain ⟨hp,g,d,tk,os⟩:=s
  obtain ⟨hl,ht,h⟩:=h
  have hsub:=sub_zip
  have L1:Heap.IsList (Shared.heap ⟨hp,g,d,tk,os⟩) l xs:=hl
  have L2':Heap.IsTuple (Shared.heap ⟨hp.push { cls:=.type "list_iterator",data:=.fields #[.ref l,.int 0 0] },g,d,tk,os⟩) t ys:=ht.at fun o e=>Heap.get?_push_of_some _ e
  wp_walk using wpAny_pyIter_list L1,wpAny_pyIter_tuple L2'
  exact ⟨_,rfl,h⟩
section
variable {prog:Program} {w:World} {A:Around} {E:Value→Shared→Prop} {s:Shared}
theorem call_zipT {l t:Addr} {xs ys:Array Value} {Q:Value→Shared→Prop} (hl:s.heap.IsList l xs) (ht:s.heap.IsTuple t ys)
  (q:∀ h',IsZip h' (s.heap.objs.size + 4) (s.heap.objs.size + 2) (s.heap.objs.size + 3) .none→IsPair h' (s.heap.objs.size + 2) (.ref s.heap.objs.size) (.ref (s.heap.objs.size + 1)) →
   IsPair h' (s.heap.objs.size + 3) .none .none→h'.IsListIter s.heap.objs.size l 0→h'.IsTupleIter (s.heap.objs.size + 1) t 0→(∀ c o,s.heap.get? c=some o→h'.get? c=some o)→Q (.ref (s.heap.objs.size + 4)) { s with heap:=h' }) :
  wpAny (model prog w) A (call (.type "zip") [.ref l,.ref t]) Q E s:=by
 refine callType_new F.called_zip (by decide) (F.typeCall_zip_2 _ _) (F.newCall_zip_2 _ _) (fun obj=>F.args_object_init_3 obj _ _) F.entry_zip_new (zipT_new l t xs ys) ⟨hl,ht,?_⟩
 have z1:(zt1 s.heap l).objs.size=s.heap.objs.size + 1:=Heap.size_push ..
 have z2:(zt2 s.heap l t).objs.size=s.heap.objs.size + 2:=by rw [Heap.size_push,z1]
 have z3:(zt3 s.heap l t).objs.size=s.heap.objs.size + 3:=by rw [Heap.size_push,z2]
 have z4:(zt4 s.heap l t).objs.size=s.heap.objs.size + 4:=by rw [Heap.size_push,z3]
 have p5:(zt5 s.heap l t).get? (zt4 s.heap l t).objs.size=some _:=Heap.get?_push_size _ rfl
 have p4:(zt5 s.heap l t).get? (zt3 s.heap l t).objs.size=some _:=Heap.get?_push_of_some _ (Heap.get?_push_size _ rfl)
 have p3:(zt5 s.heap l t).get? (zt2 s.heap l t).objs.size=some _:=Heap.get?_push_of_some _ (Heap.get?_push_of_some _ (Heap.get?_push_size _ rfl))
 have p2:(zt5 s.heap l t).get? (zt1 s.heap l).objs.size=some _:=Heap.get?_push_of_some _ (Heap.get?_push_of_some _ (Heap.get?_push_of_some _ (Heap.get?_push_size _ rfl)))
 have p1:(zt5 s.heap l t).get? s.heap.objs.size=some _:=Heap.get?_push_of_some _ (Heap.get?_push_of_some _ (Heap.get?_push_of_some _ (Heap.get?_push_of_some _ (Heap.get?_push_size _ rfl))))
 show _∧_
 rw [z2,z3,z4] at p5
 rw [z1,z2] at p3
 rw [z3] at p4
 rw [z1] at p2
 rw [z4]
 exact ⟨⟨_,p5,rfl⟩,q _ p5 p3 p4 ⟨_,p1,rfl,rfl⟩ ⟨_,p2,rfl,rfl⟩ fun c o j=>Heap.get?_push_of_some _ (Heap.get?_push_of_some _ (Heap.get?_push_of_some _ (Heap.get?_push_of_some _ (Heap.get?_push_of_some _ j))))⟩
end
noncomputable def Izt (K : PySem.W.Frag) (a b : Addr) : It :=
  ⟨fun i H => Ex_4_4 (fun xs ys x y => SqL K H a xs) (fun xs ys x y => SqT K H b ys) (fun xs ys x y => xs[i]? = some x) (fun xs ys x y => ys[i]? = some y),
   fun i H v H' => Ex_3_5 (fun p x y => v = .ref p) (fun p x y => H p = none) (fun p x y => (∀ xs, SqL K H a xs → xs[i]? = some x)) (fun p x y => (∀ ys, SqT K H b ys → ys[i]? = some y)) (fun p x y => H' = upd H p (.tup [x, y])),
   fun i H => ∃ xs, SqL K H a xs ∧ xs.length ≤ i⟩
theorem turn_zipT {P:Program} {w:World} {K:PySem.W.Frag} {elts:List Expr} {kk:Nat} {tpos:Pos} {a b z TI TO i1 i2:Addr} (D:ZipApart z TI TO i1 i2 a b) :
  Turn P w K (.Tuple elts kk tpos) (Izt K a b) [z,TI,TO,i1,i2] z (fun i h=>IsZip h z TI TO .none∧IsPair h TI (.ref i1) (.ref i2)∧(Ex_2_1 (fun u v=>IsPair h TO u v))∧h.IsListIter i1 a i∧h.IsTupleIter i2 b i) where
 mem:=by simp
 obj:=fun i h st c hc=>by
  obtain ⟨s1,s2,⟨u,v,s3⟩,⟨o4,s4,_,d4⟩,⟨o5,s5,_,d5⟩⟩:=st
  simp only [List.mem_cons,List.not_mem_nil,or_false] at hc
  rcases hc with rfl | rfl | rfl | rfl | rfl
  ·exact ⟨_,s1,fun v q=>by cases q⟩
  ·exact ⟨_,s2,fun v q=>by cases q⟩
  ·exact ⟨_,s3,fun v q=>by cases q⟩
  ·exact ⟨o4,s4,fun v q=>by rw [d4] at q; cases q⟩
  ·exact ⟨o5,s5,fun v q=>by rw [d5] at q; cases q⟩
 keep:=fun i h h' st k=>by
  obtain ⟨s1,s2,⟨u,v,s3⟩,s4,s5⟩:=st
  exact ⟨k z (by simp) _ s1,k TI (by simp) _ s2,⟨u,v,k TO (by simp) _ s3⟩,s4.at fun o q=>k i1 (by simp) o q,s5.at fun o q=>k i2 (by simp) o q⟩
 item:=by
  intro X hP hw hK hc i pins s σ H E I hf st hg
  subst hP hw hK
  obtain ⟨s1,s2,⟨u,v,s3⟩,s4,s5⟩:=st
  obtain ⟨xs,ys,x,y,hq,hq',hx,hy⟩:=hg
  obtain ⟨its,rv,p,hz⟩:=I.list hq
  obtain ⟨its',rv',p',hz'⟩:=I.tuple hq'
  obtain ⟨ux,hux,rux⟩:=rv.get hx
  obtain ⟨uy,huy,ruy⟩:=rv'.get hy
  refine next_zipT D s1 s2 s3 s4 s5 p.isList (show s.heap.IsTuple b its'.toArray from p') (x:=ux) (y:=uy) (by simpa using hux) (by simpa using huy) fun h1 a1 a2 a3 a4 a5 a6 k1=>⟨_,rfl,?_⟩
  refine wpAny_letOwnedTupleGo_zip (s:={ s with heap:=h1 }) a1 fun h2 e2 sb=>?_
  have lt:∀ c ob,s.heap.get? c=some ob→c≠s.heap.objs.size:=fun c ob q=>Nat.ne_of_lt (Heap.lt_size q)
  have zT:z≠s.heap.objs.size:=lt z _ s1
  have k2:∀ c ob,c ∉ [z,TI,TO,i1,i2]→s.heap.get? c=some ob→h2.get? c=some ob:=fun c ob hb q=>by
   have n1:c≠z:=fun t=>hb (by simp [t])
   exact (sb.2 c n1).trans (k1 c ob n1 (fun t=>hb (by simp [t])) (fun t=>hb (by simp [t])) (fun t=>hb (by simp [t])) q)
  have new:ObjOk X.prog X.w (upd H s.heap.objs.size (.tup [x,y])) h2 s.heap.objs.size (.tup [x,y]) :=
   ⟨by show 2≤sizeLine; decide,[ux,uy],.cons rux (.cons ruy .nil),⟨_,(sb.2 _ (Ne.symm zT)).trans a5,rfl,_,rfl⟩⟩
  refine ⟨.ref s.heap.objs.size,_,I.turnLay (t':=s.toks) (d':=s.drawn) hf (Nat.le_refl _) k2 new,rfl,⟨_,x,y,rfl,I.hok.fresh (Nat.le_refl _),fun zs hzs=>by rw [I.list_inj hzs hq]; exact hx,fun zs hzs=>by rw [I.tuple_inj hzs hq']; exact hy,rfl⟩,
   ⟨e2,(sb.2 _ D.TIz).trans (k1 _ _ D.TIz D.TITO D.TIi1 D.TIi2 s2),⟨_,_,(sb.2 _ D.TOz).trans a2⟩,a3.at fun o q=>(sb.2 _ D.i1z).trans q,a4.at fun o q=>(sb.2 _ D.i2z).trans q⟩,fun c hc=>?_⟩
  have hcT:c≠s.heap.objs.size:=by
   simp only [List.mem_cons,List.not_mem_nil,or_false] at hc
   rcases hc with rfl | rfl | rfl | rfl | rfl
   ·exact zT
   ·exact lt _ _ s2
   ·exact lt _ _ s3
   ·exact let ⟨o,q,_⟩:=s4; lt _ o q
   ·exact let ⟨o,q,_⟩:=s5; lt _ o q
  rw [upd_ne hcT]
  exact (hf c hc).1
 done:=by
  intro X hP hw hK hc i pins s σ H E I hf st hg
  subst hP hw hK
  obtain ⟨s1,s2,⟨u,v,s3⟩,s4,s5⟩:=st
  obtain ⟨xs,hq,hx⟩:=hg
  obtain ⟨its,rv,p,hz⟩:=I.list hq
  refine next_zipT_end (I.ok.hd hc) D s1 s2 s3 s4 p.isList ?_ fun h1 k1=>⟨rfl,I.turnedL (t':=s.toks) hf fun c ob hb q=>k1 c ob (fun t=>hb (by simp [t])) (fun t=>hb (by simp [t])) (fun t=>hb (by simp [t])) (fun t=>hb (by simp [t])) q⟩
  rw [List.getElem?_toArray]; exact List.getElem?_eq_none (by rw [← rv.length]; exact hx)
 self:=fun A i s Q E st q=>wpAny_pyIter_zip st.1 q
noncomputable def iZipT (K:PySem.W.Frag) (ta:TA):TI:=fun σ H R=>ta σ H fun vs H1=>Ex_2_4 (fun a b=>vs=[.ref a,.ref b]) (fun a b=>(∃ xs,SqL K H1 a xs)) (fun a b=>(∃ ys,SqT K H1 b ys)) (fun a b=>R (Izt K a b) H1)
theorem pi_zipT {X:Cx} {elts:List Expr} {kk:Nat} {tpos:Pos} {l r:Expr} {ta:TA} {p pos:Pos} (hg:Gl X "zip") (hm:X.mg "zip"=none) (ha:PA X [l,r] ta) (hs:starEach [l,r] X.env=[(false,eval l X.env),(false,eval r X.env)]:=by rfl) (hs2:starEach [r] X.env=[(false,eval r X.env)]:=by rfl) :
  PI X (.Tuple elts kk tpos) (.Call (.Name "zip" p) [l,r] [] pos) (iZipT X.K ta):=by
 intro pins s σ H R I h
 refine Call_ (ld_blt I hg hm boot_zip (PyProof.Rows.callWith_type1 (thnA (ha pos pins s σ H _ I h) fun us s1 vs H1 I1 r1 q1=>?_) (by rw [hs,hs2]) (by rw [hs2]; rfl)))
 obtain ⟨a,b,rfl,⟨xs,hq⟩,⟨ys,hq'⟩,q⟩:=q1
 obtain ⟨u,u',rfl,ru,ru'⟩:=vals2 r1
 cases ru
 cases ru'
 obtain ⟨its,rv,pl,hz⟩:=I1.list hq
 obtain ⟨its',rv',pl',hz'⟩:=I1.tuple hq'
 have la:a < s1.heap.objs.size:=let ⟨o,n,e,_⟩:=pl; Heap.lt_size e
 have lb:b < s1.heap.objs.size:=let ⟨o,e,_⟩:=pl'; Heap.lt_size e
 refine call_zipT pl.isList (show s1.heap.IsTuple b its'.toArray from pl') fun h1 a1 a2 a3 a4 a5 k1=>?_
 refine wpAny_pyIter_zip a1 ?_
 have I2:Inv X pins σ H1 { s1 with heap:=h1 }:=I1.kept (t':=s1.toks) k1
 refine ⟨_,[s1.heap.objs.size + 4,s1.heap.objs.size + 2,s1.heap.objs.size + 3,s1.heap.objs.size,s1.heap.objs.size + 1],_,Izt X.K a b,H1,rfl,I2,turn_zipT (zipApart_new la lb),⟨a1,a2,⟨_,_,a3⟩,a4,a5⟩,fun c hc=>?_,q⟩
 have up:∀ n,FpOk X pins H1 (s1.heap.objs.size + n):=fun n=>I1.fpOk (Nat.le_add_right _ n) (I1.hok.fresh (Nat.le_add_right _ n))
 simp only [List.mem_cons,List.not_mem_nil,or_false] at hc
 rcases hc with rfl | rfl | rfl | rfl | rfl
 ·exact up 4
 ·exact up 2
 ·exact up 3
 ·exact up 0
 ·exact up 1
theorem comp_zipT {K:PySem.W.Frag} {a b D:Addr} {xs ys:List V} {g:TG} {tt:TT} {te:TE} {σc:St} {H:Hp} {F:Hp→Prop} (hlen:xs.length=ys.length) (Pv:Nat→St→List V→Hp→Prop) (h0:Pv 0 σc [] (upd H D (.lst [])))
  (hl:∀ i σ zs H,i≤xs.length→Pv i σ zs H→SqL K H a xs∧SqT K H b ys∧H D=some (.lst zs)∧zs.length≤i) (hz:xs.length≤sizeLine)
  (hs:∀ i x y σ zs H p,xs[i]?=some x→ys[i]?=some y→Pv i σ zs H→H p=none→g (.ref p) σ (upd H p (.tup [x,y])) fun σ2 H2=>tt σ2 H2 fun b H3=>if b=true then te σ2 H3 fun y H4=>H4 D=some (.lst zs)∧Pv (i + 1) σ2 (zs ++ [y]) (upd H4 D (.lst (zs ++ [y]))) else Pv (i + 1) σ2 zs H3)
  (hd:∀ σ zs H,Pv xs.length σ zs H→F H):tLoopC g tt te σc D (Izt K a b) H F:=by
 refine ⟨fun i m σ zs H=>m=xs.length - i∧i≤xs.length∧Pv i σ zs H,⟨xs.length,by simp,Nat.zero_le _,h0⟩,?_⟩
 rintro i m σ zs H ⟨rfl,hi,p⟩
 obtain ⟨q,q',hD,hy⟩:=hl i σ zs H hi p
 refine ⟨hD,?_⟩
 by_cases hlt:i < xs.length
 ·refine .inr ⟨⟨xs,ys,xs[i],ys[i]'(hlen ▸ hlt),q,q',by simp [hlt],by simp [hlen ▸ hlt]⟩,by lia,Pv (i + 1),fun σ' zs' H' p'=>⟨xs.length - (i + 1),by lia,rfl,hlt,p'⟩,fun v H' y=>?_⟩
  obtain ⟨pp,x,y,rfl,hn,hx,hy,rfl⟩:=y
  exact hs i x y σ zs H pp (hx xs q) (hy ys q') p hn
 ·have e:i=xs.length:=by lia
  subst e
  exact .inl ⟨⟨xs,q,Nat.le_refl _⟩,hd σ zs H p⟩
end L2
set_option Elab.async false
set_option linter.all false
set_option maxRecDepth 100000
set_option maxHeartbeats 4100000
namespace L2
open PySem PySem.Spec PyProof.Rows
noncomputable abbrev sg (x:Str):List Nat:=x.cps.toList
theorem sg_inj {a b:Str} (h:sg a=sg b):a=b:=Str.ext' (Array.toList_inj.mp h)
theorem sg_len (x:Str):(sg x).length=x.length:=Array.length_toList
theorem sg_app (a b:Str):sg (a ++ b)=sg a ++ sg b:=by
 show (a ++ b).cps.toList=_
 rw [Str.cps_append,Array.toList_append]
theorem sg_sub (s:Str) (i j:Nat):sg (Builtin.Str.strSub s i j)=((sg s).drop i).take (j - i):=StrLaws.strSub_toList s i j
theorem sg_join2 (sep p q:Str) (r:List Str):sg (Str.join sep (p :: q :: r))=sg p ++ (sg sep ++ sg (Str.join sep (q :: r))):=by
 show sg (p ++ sep ++ Str.join sep (q :: r))=_
 rw [sg_app,sg_app,List.append_assoc]
theorem at_iff {x y:Str} {k:Nat} (hy:1≤y.length):StrLaws.At x y x.length k ↔ ((sg x).drop k).take y.length=sg y:=by
 unfold StrLaws.At
 rw [StrLaws.subAt_eq,beq_iff_eq]
 refine ⟨fun h=>h.2,fun h=>⟨?_,h⟩⟩
 have hl:=congrArg List.length h
 rw [List.length_take,List.length_drop,sg_len,sg_len] at hl
 lia
theorem at_char {x y:Str} {k o c:Nat} (h:StrLaws.At x y x.length k) (ho:(sg y)[o]?=some c):(sg x)[k + o]?=some c:=by
 have ho':o < y.length:=by
  have:=(List.getElem?_eq_some_iff.mp ho).1
  rwa [sg_len] at this
 have e:=(at_iff (by lia)).mp h
 rw [← e,List.getElem?_take_of_lt ho',List.getElem?_drop] at ho
 exact ho
theorem parts_of_join {sep:Str} {c o:Nat} (ho:(sg sep)[o]?=some c) (hu:∀ j,(sg sep)[j]?=some c→j=o) (x:Str):∀ (parts:List Str),parts≠[]→(∀ p∈parts,c ∉ sg p) →
  ∀ (a:Nat),a≤x.length→(sg x).drop a=sg (Str.join sep parts)→∀ (cuts:List Nat) (f:Nat),StrLaws.ChainG x sep x.length a cuts f→(∀ k,f≤k→¬ StrLaws.At x sep x.length k)→StrLaws.partsFrom x sep.length a cuts=parts
 | [],hne,_,_,_,_,_,_,_,_=>absurd rfl hne
 | [p],_,hf,a,ha,hx,cuts,f,hc,hn=>by
  have free:∀ k,a≤k→¬ StrLaws.At x sep x.length k:=fun k hk hA=>by
   have h1:=at_char hA ho
   have e:(sg x)[k + o]?=((sg x).drop a)[k + o - a]?:=by rw [List.getElem?_drop]; congr 1; lia
   rw [e,hx] at h1
   exact hf p (List.mem_singleton.mpr rfl) (List.mem_of_getElem? h1)
  cases cuts with
  | cons c0 r=>exact absurd hc.2.1 (free c0 hc.1)
  | nil =>
   have e:Builtin.Str.strSub x a x.length=p:=by
    apply sg_inj
    rw [sg_sub,hx]
    refine List.take_of_length_le ?_
    rw [← hx,List.length_drop,sg_len]
    lia
   show [Builtin.Str.strSub x a x.length]=[p]
   rw [e]
 | p :: q :: r,_,hf,a,ha,hx,cuts,f,hc,hn=>by
  have hs1:1≤sep.length:=by
   have:=(List.getElem?_eq_some_iff.mp ho).1
   rw [sg_len] at this
   lia
  rw [sg_join2] at hx
  have hd:(sg x).drop (a + p.length)=sg sep ++ sg (Str.join sep (q :: r)):=by
   rw [← List.drop_drop,hx,← sg_len p,List.drop_left]
  have hA:StrLaws.At x sep x.length (a + p.length):=by
   rw [at_iff hs1,hd,← sg_len sep,List.take_left]
  cases cuts with
  | nil =>
   have e:f=a:=hc
   exact absurd hA (hn _ (by lia))
  | cons c0 r' =>
   have h1:c0≤a + p.length:=Nat.le_of_not_lt fun z=>hc.2.2.1 (a + p.length) (by lia) z hA
   have h2:a + p.length≤c0:=Nat.le_of_not_lt fun z=>by
    have h3:=at_char hc.2.1 ho
    have hac:=hc.1
    have e:(sg x)[c0 + o]?=((sg x).drop a)[c0 + o - a]?:=by rw [List.getElem?_drop]; congr 1; lia
    rw [e,hx] at h3
    by_cases hj:c0 + o - a < (sg p).length
    ·rw [List.getElem?_append_left hj] at h3
     exact hf p (List.mem_cons_self ..) (List.mem_of_getElem? h3)
    ·rw [List.getElem?_append_right (by lia)] at h3
     have ho':=(List.getElem?_eq_some_iff.mp ho).1
     rw [sg_len] at hj h3
     rw [List.getElem?_append_left (by lia)] at h3
     have:=hu _ h3
     lia
   have e0:c0=a + p.length:=by lia
   subst e0
   have e1:Builtin.Str.strSub x a (a + p.length)=p:=by
    apply sg_inj
    rw [sg_sub,hx,Nat.add_sub_cancel_left,← sg_len p,List.take_left]
   have e2:=parts_of_join ho hu x (q :: r) (by simp) (fun z hz=>hf z (List.mem_cons_of_mem _ hz)) (a + p.length + sep.length) hA.1 (by rw [← List.drop_drop,hd,← sg_len sep,List.drop_left]) r' f hc.2.2.2 hn
   show Builtin.Str.strSub x a (a + p.length) :: StrLaws.partsFrom x sep.length (a + p.length + sep.length) r'=_
   rw [e1,e2]
theorem kind_one (x:Str):1≤Builtin.Str.strKind x:=by
 unfold Builtin.Str.strKind
 split
 ·exact Nat.le_refl _
 ·split <;> decide
theorem split_join {sep:Str} {c o:Nat} (ho:(sg sep)[o]?=some c) (hu:∀ j,(sg sep)[j]?=some c→j=o) (hk:Builtin.Str.strKind sep=1) {parts:List Str} (hne:parts≠[]) (hf:∀ p∈parts,c ∉ sg p):Txt.split (Str.join sep parts) sep=parts:=by
 have hs1:1≤sep.length:=by
  have:=(List.getElem?_eq_some_iff.mp ho).1
  rw [sg_len] at this
  lia
 obtain ⟨f,hc,hn⟩:=StrLaws.occ_tight (Str.join sep parts) sep hs1
 have key:=parts_of_join ho hu (Str.join sep parts) parts hne hf 0 (Nat.zero_le _) (by rw [List.drop_zero]) _ f hc hn
 unfold Txt.split
 split
 ·rename_i h
  match parts,hne,hf,key,h with
  | [p],_,_,_,_=>rfl
  | p :: q :: r,_,_,_,h =>
   exfalso
   have l1:=congrArg List.length (sg_join2 sep p q r)
   rw [List.length_append,List.length_append,sg_len,sg_len,sg_len,sg_len] at l1
   have k1:=kind_one (Str.join sep (p :: q :: r))
   rw [Bool.or_eq_true,decide_eq_true_eq,decide_eq_true_eq,hk] at h
   lia
 ·split
  ·rename_i h1 h2
   rw [List.isEmpty_iff.mp h2] at key
   have k2:[Builtin.Str.strSub (Str.join sep parts) 0 (Str.join sep parts).length]=parts:=key
   rw [StrLaws.sub_whole] at k2
   exact k2
  ·rw [StrLaws.partsBetween_eq]
   exact key
theorem split_ne (z y:Str):Txt.split z y≠[]:=by
 unfold Txt.split
 split
 ·simp
 ·split
  ·simp
  ·rw [StrLaws.partsBetween_eq]
   obtain ⟨p,r,e⟩:=StrLaws.partsFrom_ne z y.length 0 (Builtin.Str.occurrences z y 0 z.length (z.length + 1))
   rw [e]; simp
noncomputable abbrev numT (n:Int):Str:=(toString n:String)
noncomputable def digs (m:Nat):List Nat:=(Nat.toDigits 10 m).map Char.toNat
theorem digs_lt {m:Nat} (h:m < 10):digs m=[48 + m]:=by
 unfold digs
 rw [Nat.toDigits_of_lt_base h]
 show [(Nat.digitChar m).toNat]=[48 + m]
 match m,h with
 | 0,_=>rfl | 1,_=>rfl | 2,_=>rfl | 3,_=>rfl | 4,_=>rfl | 5,_=>rfl | 6,_=>rfl | 7,_=>rfl | 8,_=>rfl | 9,_=>rfl
theorem digs_ge {m:Nat} (h:10≤m):digs m=digs (m / 10) ++ [48 + m % 10]:=by
 have hm:m % 10 < 10:=Nat.mod_lt m (by decide)
 have t:Nat.toDigits 10 (m / 10) ++ Nat.toDigits 10 (m % 10)=Nat.toDigits 10 (10 * (m / 10) + m % 10):=Nat.toDigits_append_toDigits (by decide) (by lia) hm
 rw [Nat.div_add_mod] at t
 have e:=digs_lt hm
 unfold digs at e ⊢
 rw [← t,List.map_append,e]
theorem digs_all (m:Nat):∀ c∈digs m,48≤c∧c≤57:=by
 induction m using Nat.strongRecOn with
 | _ m ih =>
  by_cases h:m < 10
  ·rw [digs_lt h]
   intro c hc
   rw [List.mem_singleton.mp hc]
   lia
  ·rw [digs_ge (by lia)]
   intro c hc
   rcases List.mem_append.mp hc with hc | hc
   ·exact ih (m / 10) (by lia) c hc
   ·rw [List.mem_singleton.mp hc]
    lia
theorem digs_ne (m:Nat):digs m≠[]:=by
 by_cases h:m < 10
 ·rw [digs_lt h]; simp
 ·rw [digs_ge (by lia)]; simp
theorem digs_len:∀ (k m:Nat),m < 10 ^ (k + 1)→(digs m).length≤k + 1
 | 0,m,h=>by rw [digs_lt (by simpa using h)]; exact Nat.le_refl _
 | k + 1,m,h=>by
  by_cases c:m < 10
  ·rw [digs_lt c]; simp
  ·rw [digs_ge (by lia),List.length_append,List.length_singleton]
   have e:10 ^ (k + 1 + 1)=10 ^ (k + 1) * 10:=Nat.pow_succ ..
   have:=digs_len k (m / 10) (by lia)
   lia
theorem digs_head (m:Nat):0 < m→(digs m).head?≠some 48:=by
 induction m using Nat.strongRecOn with
 | _ m ih =>
  intro h0
  by_cases h:m < 10
  ·rw [digs_lt h]
   intro e
   have:=Option.some.inj e
   lia
  ·rw [digs_ge (by lia)]
   have:=ih (m / 10) (by lia) (by lia)
   cases e:digs (m / 10) with
   | nil=>exact absurd e (digs_ne _)
   | cons d r=>rw [e] at this; exact this
theorem sg_pos (m:Nat):sg (numT (m:Int))=digs m:=PySem.W.KIN.signs_num m
theorem sg_neg (k:Nat):sg (numT (Int.negSucc k))=45 :: digs (k + 1):=by
 show (Str.ofString (toString (Int.negSucc k))).cps.toList=_
 rw [signs_ofString]
 have e:(toString (Int.negSucc k):String)="-" ++ Nat.repr (k + 1):=rfl
 rw [e]
 unfold digs
 rw [← Nat.toList_repr]
 simp
theorem num_val (m:Nat):NumText.digitsVal (digs m)=m:=PySem.W.KIN.val_back m
theorem num_back (n:Int) (h:n.natAbs < 10 ^ 60):intText? (numT n)=some n:=by
 cases n with
 | ofNat m =>
  have hl:(numT (m:Int)).length≤60:=by
   rw [← sg_len,sg_pos]
   exact digs_len 59 m h
  have e:=intText_digits (x:=numT (m:Int)) (by rw [show (numT (m:Int)).cps.toList=digs m from sg_pos m]; exact digs_all m) (by rw [show (numT (m:Int)).cps.toList=digs m from sg_pos m]; exact digs_ne m) (by lia)
  rw [show (numT (m:Int)).cps.toList=digs m from sg_pos m,num_val] at e
  exact e
 | negSucc k =>
  have hl:(numT (Int.negSucc k)).length≤61:=by
   rw [← sg_len,sg_neg,List.length_cons]
   have:=digs_len 59 (k + 1) h
   lia
  have e:=intText_neg (x:=numT (Int.negSucc k)) (cs:=digs (k + 1)) (sg_neg k) (digs_all _) (digs_ne _) (by lia)
  rw [num_val] at e
  exact e
theorem num_len (n:Int) (h:n.natAbs < 10 ^ 60):(numT n).length≤61:=by
 cases n with
 | ofNat m =>
  rw [← sg_len,show sg (numT (Int.ofNat m))=digs m from sg_pos m]
  exact Nat.le_succ_of_le (digs_len 59 m h)
 | negSucc k =>
  rw [← sg_len,sg_neg,List.length_cons]
  exact Nat.succ_le_succ (digs_len 59 (k + 1) h)
theorem log_small (n:Int) (h:n.natAbs < 10 ^ 60):n.natAbs.log2 < 1920:=by
 by_cases c:n.natAbs=0
 ·rw [c]; decide
 ·rw [Nat.log2_lt c]
  exact Nat.lt_of_lt_of_le h (by decide +kernel)
noncomputable abbrev FIG:Str:="0123456789"
noncomputable abbrev LET:Str:="abcdefghijklmnopqrstuvwxyz"
theorem fig_mem (c:Nat):c∈sg FIG ↔ 48≤c∧c≤57:=by
 have e:sg FIG=[48,49,50,51,52,53,54,55,56,57]:=by decide +kernel
 rw [e]
 simp only [List.mem_cons,List.not_mem_nil,or_false]
 omega
theorem let_mem (c:Nat):c∈sg LET ↔ 97≤c∧c≤122:=by
 have e:sg LET=[97,98,99,100,101,102,103,104,105,106,107,108,109,110,111,112,113,114,115,116,117,118,119,120,121,122]:=by decide +kernel
 rw [e]
 simp only [List.mem_cons,List.not_mem_nil,or_false]
 omega
noncomputable def madeOf (z s:Str) (m:Int):Bool:=decide ((1:Int)≤z.length) && decide ((z.length:Int)≤m) && (sg z).all fun c=>decide (c∈sg s)
noncomputable def figT (z:Str):Str:=if Txt.startswith z "-"=true then Txt.slice z (some 1) none else z
noncomputable def isNum (z:Str):Bool:=madeOf (figT z) FIG 60 && (decide (z="0") || !Txt.startswith (figT z) "0")
noncomputable def isNam (z:Str):Bool:=madeOf z LET 8
theorem sw_one (z:Str) (c:Nat):Txt.startswith z ⟨#[c]⟩=decide ((sg z).head?=some c):=by
 have h:=StrLaws.subAt_one z c 0
 have e:(sg z).head?=z.cps.toList[0]?:=List.head?_eq_getElem? ..
 rw [e]
 unfold Txt.startswith
 by_cases k:z.cps.toList[0]?=some c
 ·rw [decide_eq_true k]
  have:=h.mpr k
  rw [Bool.and_eq_true,decide_eq_true_eq]
  exact this
 ·rw [decide_eq_false k,Bool.eq_false_iff]
  intro q
  rw [Bool.and_eq_true,decide_eq_true_eq] at q
  exact k (h.mp q)
theorem sw_minus (z:Str):Txt.startswith z "-"=decide ((sg z).head?=some 45):=sw_one z 45
theorem sw_nought (z:Str):Txt.startswith z "0"=decide ((sg z).head?=some 48):=sw_one z 48
theorem slice_none (l:Option Int) (n:Nat):Builtin.Str.strSliceIndices l none 1 n=Builtin.Str.strSliceIndices l (some (n:Int)) 1 n:=by
 unfold Builtin.Str.strSliceIndices
 have e:(max 0 (min (if (n:Int) < 0 then (n:Int) + (n:Int) else (n:Int)) (n:Int)))=(n:Int):=by
  rw [if_neg (by lia)]; lia
 simp only [show (1:Int) > 0 by decide,if_true,e]
theorem slice_one {z:Str} (hz:1≤z.length):sg (Txt.slice z (some 1) none)=(sg z).drop 1:=by
 unfold Txt.slice
 have e:=StrLaws.strSliceIndices_plain (a:=1) (b:=z.length) (len:=z.length) hz (Nat.le_refl _)
 have p:=StrLaws.sliced_plain z (a:=1) (b:=z.length) hz (Nat.le_refl _)
 rw [slice_none]
 have e1:((1:Nat):Int)=1:=rfl
 rw [e1] at e p
 split
 ·rename_i h
  rw [e,List.length_map,List.length_range] at h
  simp at h
  lia
 ·show ((List.filterMap _ _).toArray).toList=_
  rw [p,List.toList_toArray]
  refine List.take_of_length_le ?_
  rw [List.length_drop]
  exact Nat.sub_le_sub_right (by rw [← sg_len]; exact Nat.le_refl _) _
theorem isNum_num (n:Int) (h:n.natAbs < 10 ^ 60):isNum (numT n)=true:=by
 have made:∀ {z:Str} {m:Nat},sg z=digs m→m < 10 ^ 60→madeOf z FIG 60=true:=fun {z m} e hm=>by
  have l1:=digs_len 59 m hm
  have l2:(digs m).length≠0:=fun k=>digs_ne m (List.length_eq_zero_iff.mp k)
  unfold madeOf
  rw [← sg_len,e,Bool.and_eq_true,Bool.and_eq_true,decide_eq_true_eq,decide_eq_true_eq,List.all_eq_true]
  exact ⟨⟨by lia,by lia⟩,fun c hc=>decide_eq_true ((fig_mem c).mpr (digs_all m c hc))⟩
 unfold isNum
 cases n with
 | ofNat m =>
  have e:sg (numT (Int.ofNat m))=digs m:=sg_pos m
  have hfig:figT (numT (Int.ofNat m))=numT (Int.ofNat m):=by
   unfold figT
   rw [sw_minus,e,if_neg]
   intro k
   have k':=of_decide_eq_true k
   have:=digs_all m 45 (List.mem_of_mem_head? k')
   lia
  rw [hfig,made e h,Bool.true_and,sw_nought,e]
  by_cases h0:m=0
  ·subst h0; rfl
  ·rw [decide_eq_false (digs_head m (by lia))]
   simp
 | negSucc k =>
  have e:=sg_neg k
  have hl:1≤(numT (Int.negSucc k)).length:=by rw [← sg_len,e]; simp
  have hfig:sg (figT (numT (Int.negSucc k)))=digs (k + 1):=by
   unfold figT
   rw [sw_minus,e,if_pos (by rfl),slice_one hl,e]
   rfl
  rw [made hfig h,Bool.true_and,sw_nought,hfig,decide_eq_false (digs_head _ (by lia))]
  simp
theorem nam_signs {z:Str} (h:isNam z=true):1≤z.length∧z.length≤8∧∀ c∈sg z,97≤c∧c≤122:=by
 unfold isNam madeOf at h
 rw [Bool.and_eq_true,Bool.and_eq_true,decide_eq_true_eq,decide_eq_true_eq,List.all_eq_true] at h
 obtain ⟨⟨h1,h2⟩,h3⟩:=h
 exact ⟨by lia,by lia,fun c hc=>(let_mem c).mp (of_decide_eq_true (h3 c hc))⟩
theorem isNum_nam {z:Str} (h:isNam z=true):isNum z=false:=by
 obtain ⟨h1,h2,h3⟩:=nam_signs h
 have hne:sg z≠[]:=fun k=>by have:=congrArg List.length k; rw [sg_len] at this; simp at this; lia
 obtain ⟨c,r,e⟩:=List.exists_cons_of_ne_nil hne
 have hc:=h3 c (by rw [e]; exact List.mem_cons_self ..)
 have hfig:figT z=z:=by
  unfold figT
  rw [sw_minus,e,if_neg]
  intro k
  have:=Option.some.inj (of_decide_eq_true k)
  lia
 unfold isNum
 rw [hfig]
 have:madeOf z FIG 60=false:=by
  unfold madeOf
  rw [e,List.all_cons,decide_eq_false (p:=c∈sg FIG) (fun k=>by have:=(fig_mem c).mp k; lia)]
  simp
 rw [this]; rfl
end L2
set_option Elab.async false
set_option linter.all false
set_option maxRecDepth 100000
set_option maxHeartbeats 4100000
namespace L2
open PySem PySem.Spec PyProof.Rows
section
variable {prog:Program} {w:World} {A:Around} {E:Value→Shared→Prop} {s:Shared}
end
section
variable {X:Cx} {pins:List (Addr×Obj)} {σ:St} {H H':Hp} {s:Shared} {a:Addr} {y v:V} {u r:Value} {A:Around} {E:Value→Shared→Prop}
end
section
variable {X:Cx}
end
end L2
set_option Elab.async false
set_option linter.all false
set_option maxRecDepth 100000
set_option maxHeartbeats 4100000
namespace L2
open PySem PySem.Spec PyProof.Rows PySem.W
structure Ord (β:Type) where
 lt:β→β→Bool
 irr:∀ a,lt a a=false
 trans:∀ a b c,lt a b=true→lt b c=true→lt a c=true
 tri:∀ a b,lt a b=false→lt b a=false→a=b
namespace Ord
variable {β:Type} (O:Ord β)
noncomputable def le (a b:β):Prop:=O.lt b a=false
theorem le_refl (a:β):O.le a a:=O.irr a
theorem le_of_lt {a b:β} (h:O.lt a b=true):O.le a b:=by
 unfold le
 cases e:O.lt b a with
 | false=>rfl
 | true=>have:=O.trans _ _ _ h e; rw [O.irr] at this; cases this
theorem lt_or {a b:β} (h:O.le a b):O.lt a b=true∨a=b:=by
 cases e:O.lt a b with
 | true=>exact .inl rfl
 | false=>exact .inr (O.tri a b e h)
theorem le_trans {a b c:β} (h:O.le a b) (g:O.le b c):O.le a c:=by
 rcases O.lt_or h with h | rfl
 ·rcases O.lt_or g with g | rfl
  ·exact O.le_of_lt (O.trans _ _ _ h g)
  ·exact O.le_of_lt h
 ·exact g
end Ord
noncomputable def Asks {α:Type} (n:Nat) (c:Nat→Nat→Bool) (P:α→Prop):KasT α→Prop
 | .ret a=>P a
 | .ask i j k=>i < n∧j < n∧Asks n c P (k (c i j))
theorem Asks.bind {α β:Type} {n:Nat} {c:Nat→Nat→Bool} {P:α→Prop} {R:β→Prop} {f:α→KasT β}:∀ {t:KasT α},Asks n c P t→(∀ a,P a→Asks n c R (f a))→Asks n c R (t.bind f)
 | .ret a,h,g=>g a h
 | .ask i j k,h,g=>⟨h.1,h.2.1,Asks.bind h.2.2 g⟩
theorem Asks.mono {α:Type} {n:Nat} {c:Nat→Nat→Bool} {P R:α→Prop}:∀ {t:KasT α},Asks n c P t→(∀ a,P a→R a)→Asks n c R t
 | .ret a,h,g=>g a h
 | .ask i j k,h,g=>⟨h.1,h.2.1,Asks.mono h.2.2 g⟩
section
variable {β:Type} (O:Ord β) (key:Nat→β) (n:Nat)
structure Arr (p:Array Nat):Prop where
 size:p.size=n
 lt:∀ i,p.getD i 0 < n
 perm:p.toList.Perm (List.range n)
noncomputable abbrev cm (i j:Nat):Bool:=O.lt (key i) (key j)
variable {O key n}
theorem getD_eq (p:Array Nat) (i:Nat):p.getD i 0=(p[i]?).getD 0:=by
 by_cases h:i < p.size
 ·simp [Array.getD,h]
 ·simp [Array.getD,h]
theorem Arr.of (h0:0 < n) {p q:Array Nat} (a:Arr n p) (h:q.Perm p):Arr n q:=by
 have hs:q.size=n:=(h.size_eq).trans a.size
 have hp:q.toList.Perm (List.range n):=(Array.perm_iff_toList_perm.mp h).trans a.perm
 refine ⟨hs,fun i=>?_,hp⟩
 rw [getD_eq]
 cases e:q[i]? with
 | none=>exact h0
 | some x =>
  have hm:x∈q.toList:=by rw [← Array.getElem?_toList] at e; exact List.mem_of_getElem? e
  exact List.mem_range.mp (hp.mem_iff.mp hm)
end
end L2
set_option Elab.async false
set_option linter.all false
set_option maxRecDepth 100000
set_option maxHeartbeats 4100000
namespace L2
open PySem PySem.Spec PyProof.Rows PySem.W
section
variable {prog:Program} {w:World} {A:Around} {E:Value→Shared→Prop} {s:Shared}
end
noncomputable abbrev TK:=Addr×List Key
section
variable {X:Cx}
end
end L2
set_option Elab.async false
set_option linter.all false
set_option maxRecDepth 100000
set_option maxHeartbeats 4100000
namespace L2
open PySem PySem.Spec PyProof.Rows
noncomputable def RawD (h:Heap) (d:Addr) (es:Array DictEntry) (ep:Nat):Prop:=∃ o,h.get? d=some o∧o.ExactDict∧o.data=.dict es ep
section
variable {prog:Program} {w:World} {A:Around} {E:Value→Shared→Prop} {s:Shared} {d it:Addr} {es:Array DictEntry} {ep i:Nat}
end
section
variable {X:Cx} {pins:List (Addr×Obj)} {σ:St} {H:Hp} {s:Shared} {d:Addr} {kvs:List (List Key×V)} {ob:Obj}
end
section
variable {prog:Program} {w:World} {A:Around} {d:Addr} {es:Array DictEntry} {ep:Nat}
theorem RawD.at {h h':Heap} (r:RawD h d es ep) (k:∀ o,h.get? d=some o→h'.get? d=some o):RawD h' d es ep:=let ⟨o,ho,q⟩:=r; ⟨o,k o ho,q⟩
theorem RawD.lt {h:Heap} (r:RawD h d es ep):d < h.objs.size:=let ⟨o,ho,q⟩:=r; Heap.lt_size ho
end
section
variable {X:Cx}
end
end L2
set_option Elab.async false
set_option linter.all false
set_option maxRecDepth 100000
set_option maxHeartbeats 4100000
namespace L2
open PySem PySem.Spec PyProof.Rows
theorem eqV_key (x y:Key):eqV (kV x) (kV y)=decide (x=y):=by
 cases x with
 | inl a=>cases y with
  | inl b =>
   show (a == b)=_
   by_cases c:a=b
   ·rw [c,beq_self_eq_true,decide_eq_true rfl]
   ·rw [beq_eq_false_iff_ne.mpr c,decide_eq_false fun e=>c (Sum.inl.inj e)]
  | inr b=>exact (decide_eq_false fun e=>nomatch e).symm
 | inr a=>cases y with
  | inl b=>exact (decide_eq_false fun e=>nomatch e).symm
  | inr b =>
   show (a == b)=_
   by_cases c:a=b
   ·rw [c,beq_self_eq_true,decide_eq_true rfl]
   ·rw [beq_eq_false_iff_ne.mpr c,decide_eq_false fun e=>c (Sum.inr.inj e)]
theorem flat_key (x:Key):flatV (kV x)=true:=by cases x <;> rfl
theorem all_keys (xs ys:List Key):((List.range (min xs.length ys.length)).all (fun i=>decide (xs[i]?=ys[i]?)) && xs.length == ys.length)=decide (xs=ys):=by
 by_cases c:xs=ys
 ·subst c; simp
 ·rw [decide_eq_false c]
  by_cases l:xs.length=ys.length
  ·have:¬ ((List.range (min xs.length ys.length)).all fun i=>decide (xs[i]?=ys[i]?))=true:=fun h=>by
    rw [List.all_eq_true] at h
    refine c (List.ext_getElem? fun i=>?_)
    by_cases hi:i < xs.length
    ·exact of_decide_eq_true (h i (List.mem_range.mpr (by lia)))
    ·rw [List.getElem?_eq_none (by lia),List.getElem?_eq_none (by lia)]
   rw [Bool.eq_false_iff.mpr this]; rfl
  ·rw [Bool.and_eq_false_iff]; exact .inr (by simpa using l)
theorem DC.keys {K:PySem.W.Frag} {H:Hp} {n:Nat} {a b:Addr} {xs ys:List Key} (ha:SqT K H a (xs.map kV)) (hb:SqT K H b (ys.map kV)):DC K H (n + 1) (.ref a) (.ref b) (decide (xs=ys)):=by
 have h:=DC.tup (n:=n) (fun i=>decide (xs[i]?=ys[i]?)) ha hb fun i x y hx hy=>by
  rw [List.getElem?_map] at hx hy
  cases ex:xs[i]? with
  | none=>rw [ex] at hx; cases hx
  | some x' =>
   cases ey:ys[i]? with
   | none=>rw [ey] at hy; cases hy
   | some y' =>
    rw [ex] at hx
    rw [ey] at hy
    cases hx
    cases hy
    have:=DC.flat (K:=K) (H:=H) (n:=n) (flat_key x') (flat_key y')
    rw [eqV_key] at this
    simpa using this
 rw [List.length_map,List.length_map,all_keys] at h
 exact h
theorem DT.keys {K:PySem.W.Frag} {H:Hp} {a b:Addr} {xs ys:List Key} (ha:SqT K H a (xs.map kV)) (hb:SqT K H b (ys.map kV)):DT K H a b (decide (xs=ys)):=by
 have h:=DT.tup (fun i=>decide (xs[i]?=ys[i]?)) ha hb fun i x y hx hy=>by
  rw [List.getElem?_map] at hx hy
  cases ex:xs[i]? with
  | none=>rw [ex] at hx; cases hx
  | some x' =>
   cases ey:ys[i]? with
   | none=>rw [ey] at hy; cases hy
   | some y' =>
    rw [ex] at hx
    rw [ey] at hy
    cases hx
    cases hy
    have:=DC.flat (K:=K) (H:=H) (n:=8) (flat_key x') (flat_key y')
    rw [eqV_key] at this
    simpa using this
 rw [List.length_map,List.length_map,all_keys] at h
 exact h
structure TKs (K:PySem.W.Frag) (H:Hp) (l:Addr) (ps:List TK):Prop where
 l:SqL K H l (ps.map fun q=>V.ref q.1)
 ts:∀ q∈ps,SqT K H q.1 (q.2.map kV)
theorem DT.lists {K:PySem.W.Frag} {H:Hp} {a b:Addr} {ps qs:List TK} (ha:TKs K H a ps) (hb:TKs K H b qs):DT K H a b (decide (ps.map (·.2)=qs.map (·.2))):=by
 by_cases l:ps.length=qs.length
 ·have h:=DT.lst (fun i=>decide ((ps.map (·.2))[i]?=(qs.map (·.2))[i]?)) ha.l hb.l (by rw [List.length_map,List.length_map]; exact l) fun i x y hx hy=>by
   rw [List.getElem?_map] at hx hy
   cases ex:ps[i]? with
   | none=>rw [ex] at hx; cases hx
   | some p =>
    cases ey:qs[i]? with
    | none=>rw [ey] at hy; cases hy
    | some q =>
     rw [ex] at hx
     rw [ey] at hy
     cases hx
     cases hy
     have:=DC.keys (n:=7) (ha.ts p (List.mem_of_getElem? ex)) (hb.ts q (List.mem_of_getElem? ey))
     rw [List.getElem?_map,List.getElem?_map,ex,ey]
     simpa using this
  have e:(List.range (ps.map fun q=>V.ref q.1).length).all (fun i=>decide ((ps.map (·.2))[i]?=(qs.map (·.2))[i]?))=decide (ps.map (·.2)=qs.map (·.2)):=by
   by_cases c:ps.map (·.2)=qs.map (·.2)
   ·rw [decide_eq_true c,c]; simp
   ·rw [decide_eq_false c,Bool.eq_false_iff]
    intro h
    rw [List.all_eq_true] at h
    refine c (List.ext_getElem? fun i=>?_)
    by_cases hi:i < ps.length
    ·exact of_decide_eq_true (h i (List.mem_range.mpr (by rw [List.length_map]; exact hi)))
    ·rw [List.getElem?_eq_none (by rw [List.length_map]; lia),List.getElem?_eq_none (by rw [List.length_map]; lia)]
  rw [e] at h
  exact h
 ·have c:ps.map (·.2)≠qs.map (·.2):=fun z=>l (by have:=congrArg List.length z; simpa using this)
  rw [decide_eq_false c]
  exact DT.len ha.l hb.l (by rw [List.length_map,List.length_map]; exact l)
section
variable {X:Cx}
end
noncomputable def cA (K:PySem.W.Frag) (x:Str):Addr:=match PySem.W.nsIn K mainGlobals x with
 | some (some (.ref a))=>a
 | _=>0
theorem cA_of {K:PySem.W.Frag} {x:Str} {C:Addr} (h:PySem.W.nsIn K mainGlobals x=some (some (.ref C))):cA K x=C:=by unfold cA; rw [h]
section
variable {X:Cx} {k:Nat} {x m:Str} {ps:List Str} {sp:Sp} {p pos apos:Pos} {e o:Expr} {es:List Expr} {ta:TE} {t:TA}
end
end L2
set_option Elab.async false
set_option linter.all false
set_option maxRecDepth 100000
set_option maxHeartbeats 4100000
namespace L2
open PySem PySem.Spec PyProof.Rows PySem.W PySem.Calls
end L2
set_option Elab.async false
set_option linter.all false
set_option maxRecDepth 100000
namespace L2
open PySem
end L2
set_option linter.all false
namespace L2
open PySem PySem.W
theorem walkX {q:PySem.Program} {loose:List PySem.Str} {XP:(PySem.Str→Option PySem.Value)→PySem.Heap→Prop} {r:RowW} {d:DefRec} {K:PySem.Params→PySem.W.Frag} {as:List PySem.Addr} {n t:Nat} {run:PySem.Value→List PySem.Value→PySem.Sem PySem.Value}
  (e:∀ P,as=(K P).map (·.1)) (H:PySem.W.WalkO q loose XP (fun w h=>(K w.params).In h) r d [] run):PySem.W.WalkX q loose XP (PySem.W.X.obsZ as) (PySem.W.X.valZ K n t) r d [] run:=by
 intro w s₀ s₁ mg mb G y a o pm cd doc dV kV ho hd hcd hD hmg hg args vals as' L hpre hlay hrd hwl hlo
 exact H w s₀ s₁ mg mb G (PySem.W.InK.keeps w _ _ (PySem.W.X.z_facts e y).2.1 L.keeps) a o pm cd doc dV kV ho hd hcd hD hmg hg args vals as' hpre hlay hrd hwl hlo
end L2
set_option Elab.async false
set_option linter.all false
set_option maxRecDepth 100000
namespace L2
open PySem PySem.Spec PyProof.Rows
end L2
set_option Elab.async false
set_option linter.all false
set_option maxRecDepth 100000
set_option maxHeartbeats 4100000
namespace L2
open PySem PySem.Spec PyProof.Rows
section
variable {X:Cx}
end
end L2
set_option Elab.async false
set_option linter.all false
set_option maxRecDepth 100000
set_option maxHeartbeats 4100000
namespace L2
open PySem PySem.Spec PyProof.Rows
section
variable {prog:Program} {w:World} {A:Around} {E:Value→Shared→Prop} {s:Shared}
end
section
variable {prog:Program} {w:World} {A:Around} {E:Value→Shared→Prop} {s:Shared}
end
end L2
set_option Elab.async false
set_option linter.all false
set_option maxRecDepth 100000
set_option maxHeartbeats 4100000
namespace L2
open PySem PySem.Spec PyProof.Rows
noncomputable def ExcAt (h:Heap) (c a0:Value) (a T:Addr):Prop :=
 Ex_4_8 (fun oe vs oT ts=>h.get? a=some oe) (fun oe vs oT ts=>(oe.cls=c∧vs[0]?=some a0)) (fun oe vs oT ts=>oe.data=.fields vs) (fun oe vs oT ts=>vs[1]?=some (.ref T)) (fun oe vs oT ts=>T≠a) (fun oe vs oT ts=>h.get? T=some oT) (fun oe vs oT ts=>oT.data=.fields ts) (fun oe vs oT ts=>ts[3]?=some .none)
noncomputable def CXN (P:Program) (w:World):CXT:=fun outer H s E e s' =>
 Ex_5_11 (fun a T c a0 H'=>e=.ref a) (fun a T c a0 H'=>s'.os=s.os) (fun a T c a0 H'=>AllBare s'.gens) (fun a T c a0 H'=>Un (frs outer) [] H H' s.heap s'.heap) (fun a T c a0 H'=>HOk P w H' s'.heap) (fun a T c a0 H'=>ExcAt s'.heap c a0 a T) (fun a T c a0 H'=>H' a=none) (fun a T c a0 H'=>H' T=none) (fun a T c a0 H'=>s.heap.get? a=none) (fun a T c a0 H'=>s.heap.get? T=none) (fun a T c a0 H'=>E c none H')
section
variable {P:Program} {w:World} {H H':Hp} {h h1 h2:Heap} {a:Addr} {o:HO} {M L fs fs':List Addr}
theorem ObjOk.some_ (x:ObjOk P w H h a o):∃ u,h.get? a=some u:=by
 cases o with
 | lst xs=>obtain ⟨_,_,_,_,e⟩:=x; exact ⟨_,e⟩
 | tup xs=>obtain ⟨_,_,_,_,e,_⟩:=x; exact ⟨_,e⟩
 | dK kvs=>obtain ⟨_,_,_,_,o,_,_,e,_⟩:=x; exact ⟨_,e⟩
 | dT kvs=>obtain ⟨_,_,_,_,o,_,_,e,_⟩:=x; exact ⟨_,e⟩
 | set S n=>obtain ⟨o,_,_,_,e,_⟩:=x; exact ⟨_,e⟩
 | ins C dx fs=>obtain ⟨_,_,_,e,_⟩:=x; exact ⟨_,e⟩
 | own y=>exact x
 | xd fs=>obtain ⟨_,⟨_,_,_,e,_⟩,_⟩:=x; exact ⟨_,e⟩
 | rng lo hi=>obtain ⟨_,_,_,e⟩:=x; exact ⟨_,e⟩
 | frz ob u=>obtain ⟨e,_⟩:=x; exact ⟨_,e⟩
 | tbl ps=>exact ⟨_,show h.get? a=some _ from x⟩
 | met f y=>exact ⟨_,show h.get? a=some _ from x⟩
 | ext φ=>obtain ⟨_,e,_⟩:=x; exact e
theorem HOk.none_of (x:HOk P w H h) (e:h.get? a=none):H a=none:=by
 cases q:H a with
 | none=>rfl
 | some u =>
  obtain ⟨v,z⟩:=(x a u q).some_
  rw [e] at z; cases z
theorem HOk.fly (x:HOk P w H h1) (k:(PySem.W.hideAll h1 M).StaysIn h2) (hM:∀ b∈M,H b=none):HOk P w H h2:=fun b u e =>
 (x b u e).stay (fun c v hc q=>k c v (PySem.W.hideAll_get _ q fun hm=>by
  have n:=hM c hm
  rcases hc with rfl | hc
  ·rw [n] at e; cases e
  ·rw [n] at hc; cases hc)) (fun _ q=>q) fun _ _ q=>q
theorem Un.fly (u:Un fs [] H H' h h1) (k:(PySem.W.hideAll h1 (L ++ fs')).StaysIn h2) (up:h1.UpToSlots h2) (hL:∀ b∈L,h.get? b=none) (hf':∀ b∈fs',b∈fs∨h.get? b=none)
  (hf:∀ b∈fs,H b=none∧∃ o,h.get? b=some o∧∀ vs,o.data≠.fields vs):Un fs [] H H' h h2:=by
 have hL':∀ b o,h.get? b=some o→b ∉ L:=fun b o e hb=>by rw [hL b hb] at e; cases e
 have slot:∀ b o,h.get? b=some o→b∈fs→∃ sl,h2.get? b=some { o with slots:=sl }:=fun b o e hb=>by
  obtain ⟨n,o',e',nf⟩:=hf b hb
  obtain rfl:o=o':=Option.some.inj (e.symm.trans e')
  obtain ⟨sl,e1⟩:=u.slot b o e n hb (by simp)
  obtain ⟨sl2,e2⟩:=up b _ e1 nf
  exact ⟨sl2,e2⟩
 have stay:∀ b o o1,h.get? b=some o→h1.get? b=some o1→b ∉ fs→h2.get? b=some o1:=fun b o o1 e e1 hb =>
  k b o1 (PySem.W.hideAll_get _ e1 fun hm=>(List.mem_append.mp hm).elim (hL' b o e) fun z=>(hf' b z).elim hb fun n=>by rw [n] at e; cases e)
 refine ⟨fun b o e n hb hx=>stay b o o e (u.keep b o e n hb hx) hb,fun b o e n hb _=>slot b o e hb,u.free,fun b o e hx=>?_,u.tups,u.frzs,u.tbls⟩
 obtain ⟨o1,e1⟩:=u.there b o e hx
 by_cases hb:b∈fs
 ·obtain ⟨sl,z⟩:=slot b o e hb
  exact ⟨_,z⟩
 ·exact ⟨o1,stay b o o1 e e1 hb⟩
end
section
variable {X:Cx} {pins:List (Addr×Obj)} {σ:St} {H:Hp} {s:Shared} {h':Heap} {a:Addr} {c a0:Value} {L:List Addr} {E:XK}
theorem frames_hid {h:Heap} {base:Heap} {l:List Env} (f:h.FunFrames base l):h.FunFrames (PySem.W.hideAll h (L ++ frs l)) l :=
 PySem.W.funFrames_hide f fun env he b hb=>List.mem_append_right _ (List.mem_filterMap.mpr ⟨env,he,hb⟩)
theorem Inv.frs_nf (I:Inv X pins σ H s):∀ b∈frs X.stack,H b=none∧∃ o,s.heap.get? b=some o∧∀ vs,o.data≠.fields vs:=fun b hb =>
 ⟨I.stkFree b hb,((I.stack).mem hb).2⟩
end
section
variable {P:Program} {w:World} {K:PySem.W.Frag} {mg:Str→Option Value} {base:Heap} {N:List Str} {qual:Str} {scope:Scope} {f:Addr} {cd:Value} {A:Around} {outer:List Env} {s0:Shared} {H0:Hp} {E:XK}
end
section
variable {P:Program} {w:World} {K:PySem.W.Frag} {mg:Str→Option Value} {base:Heap} {k:Nat} {f:Addr} {fd:FuncData} {ps:List Str} {sp sp':Sp} {CX:CXT}
theorem FnOk.or (F:FnOk P w K mg base CX k f fd ps sp) (G:FnOk P w K mg base CX k f fd ps sp'):FnOk P w K mg base CX k f fd ps (fun vs H Q E=>sp vs H Q E∨sp' vs H Q E) :=
 ⟨fun vs H Q E h=>h.elim (F.len vs H Q E) (G.len vs H Q E),fun A outer s H args us vs Q E hr e0 hb hv hs=>hs.elim (F.run A outer s H args us vs Q E hr e0 hb hv) (G.run A outer s H args us vs Q E hr e0 hb hv)⟩
end
section
variable {X:Cx} {k:Nat} {x:Str} {ps:List Str} {sp:Sp} {p pos:Pos} {e:Expr} {es:List Expr} {t:TA} {E:XK}
end
end L2
namespace L2
open PySem PySem.Spec PyProof.Rows
theorem exc_obj {K:PySem.W.Frag} {h:Heap} {C:Addr} {bmB:List Value} {newId:String} (X:K.In h) (q:PySem.W.excIn K C bmB newId=true) :
  Ex_17_4 (fun bm N nm qn bs hdct sn sub ab col dd k0 k1 k2 k3 k5 mN=>h.get? C=some (excClassObj nm qn C N bs bm hdct sn sub ab col dd k0 k1 k2 k3 k5 newId)) (fun bm N nm qn bs hdct sn sub ab col dd k0 k1 k2 k3 k5 mN=>h.Ns N mN) (fun bm N nm qn bs hdct sn sub ab col dd k0 k1 k2 k3 k5 mN=>mN "__init__"=none) (fun bm N nm qn bs hdct sn sub ab col dd k0 k1 k2 k3 k5 mN=>OwnTail h bmB bm):=by
 unfold PySem.W.excIn at q
 split at q
 ·next dd cd sl ho =>
  split at q
  ·next C1 bm k0 k1 k2 k3 n k5 hm hs =>
   obtain ⟨nm,bs,mro,ns,qn,hd,sn,sub,ab,col,del⟩:=cd
   obtain ⟨l⟩:=sl
   simp only [Bool.and_eq_true,beq_iff_eq,Bool.not_eq_true'] at q hm hs
   obtain ⟨⟨⟨⟨⟨e1,e2⟩,e3⟩,e4⟩,e5⟩,e6⟩:=q
   subst e1 e2 e3 hm hs
   exact ⟨bm,ns,nm,qn,bs,hd,sn,sub,ab,col,dd,k0,k1,k2,k3,k5,_,X _ _ ho,.of_isNs (PySem.W.isNs_of_in X e5),PySem.W.nsMap_none_of_in X e5 e6,PySem.W.tail_of_in X e4⟩
  ·cases q
 ·cases q
section
variable {X:Cx} {C:Addr} {bmB bmN:List Value} {newId Bn inN B nid initId:String} {x:Str} {np cpos pos:Pos} {e:Expr} {es:List Expr} {t:TA} {E:XK}
end
noncomputable def Cx.held (X:Cx) (pins:List (Addr×Obj)) (a:Addr) (ob:Obj):Cx:={ X with A:=X.A.mark (some (.ref a)),calm:=false,pn:=(X.pn ++ pins) ++ [(a,ob)],xe:=fun _ _=>False }
section
variable {X:Cx} {pins:List (Addr×Obj)} {σ:St} {H:Hp} {s:Shared} {a:Addr} {ob:Obj}
theorem Inv.hold (I:Inv X pins σ H s) (h:s.heap.get? a=some ob∧H a=none∧a≠X.env.locals∧a ∉ X.fs∧∀ v,ob.data≠.cell v):Inv (X.held pins a ob) [] σ H s :=
 ⟨⟨I.ok.mod,I.ok.kind,I.ok.glob,I.ok.blt,I.ok.above,I.ok.inj,I.ok.has,I.ok.cab,(fun z=>nomatch z),I.ok.frames,I.ok.stk,I.ok.exf,I.ok.bs,I.ok.bsz,I.ok.noex,I.ok.exfs,I.ok.funs,I.ok.frf⟩,
  I.os,I.bare,I.base,I.loc,I.cell,I.free,I.freeC,fun p hp=>by
   have hp:p∈((X.pn ++ pins) ++ [(a,ob)]) ++ []:=hp
   rw [List.append_nil] at hp
   rcases List.mem_append.mp hp with hp | hp
   ·exact I.pin p hp
   ·obtain rfl:=List.mem_singleton.mp hp
    exact h,I.hok,I.len⟩
theorem Inv.unhold (ok:X.Ok) (I:Inv (X.held pins a ob) [] σ H s):Inv X pins σ H s :=
 ⟨ok,I.os,I.bare,I.base,I.loc,I.cell,I.free,I.freeC,fun p hp=>I.pin p (List.mem_append_left _ (List.mem_append_left _ hp)),I.hok,I.len⟩
theorem name_goes {M:Model} {A:Around} {E:Value→Shared→Prop} {i:Nat} {x:Str} {pos:Pos} {Q:Unit→Shared→Prop} (I:Inv X pins σ H s) (hN:X.N.Nodup) (hi:X.N[i]?=some x) (hk:X.env.scope.names.lookup x=some .local)
  (h:∀ s',Inv X pins (σ.set i none) H s'→Q () s'):wpAny M A (do bindName X.env x .none; unbindBehindTheSuite X.env x pos) Q E s:=by
 obtain ⟨m,hn,hl⟩:=id I.loc
 have hcls:(X.env.scope.kind == .class || (X.env.scope.kind == .module && X.env.locals != X.env.globals))=false:=by rw [I.ok.kind]; rfl
 have cne:=I.cne
 obtain ⟨oL,_,_,hoL,_⟩:=id hn
 refine wpAny_nameGoes_keeps hk hn hcls fun h' v hn' hs=>?_
 have ne:∀ b o,X.s₀.heap.get? b=some o→b≠X.env.locals:=fun b o e=>Nat.ne_of_lt (Nat.lt_of_lt_of_le (Heap.lt_size e) I.ok.above)
 refine h _ ⟨I.ok,I.os,I.bare,⟨fun b o e n hb hx=>(hs.2 b (ne b o e)).trans (I.base.keep b o e n hb hx),fun b o e n hb hx=>?_,I.base.free,fun b o e hx=>?_,I.base.tups,I.base.frzs,I.base.tbls⟩,⟨_,hn',fun j y v' e1 e2 e3=>?_⟩,fun y c e=>?_,I.free,I.freeC,fun p hp=>?_,
  fun b u e=>(I.hok b u e).stay (fun c v hc q=>(hs.2 c fun z=>?_).trans q) (fun _ q=>q) fun _ _ q=>q,by rw [List.length_set]; exact I.len⟩
 ·obtain ⟨sl,e1⟩:=I.base.slot b o e n hb hx
  exact ⟨sl,(hs.2 b (ne b o e)).trans e1⟩
 ·obtain ⟨o',e1⟩:=I.base.there b o e hx
  exact ⟨o',(hs.2 b (ne b o e)).trans e1⟩
 ·by_cases hj:j=i
  ·subst hj
   by_cases hz:j < σ.length
   ·rw [List.getElem?_set_self hz] at e2; cases e2
   ·rw [List.getElem?_eq_none (by rw [List.length_set]; exact Nat.le_of_not_lt hz)] at e2; cases e2
  ·rw [List.getElem?_set_ne (Ne.symm hj)] at e2
   obtain ⟨u',r',q⟩:=hl j y v' e1 e2 e3
   refine ⟨u',r',?_⟩
   rcases q with ⟨k,e⟩ | ⟨k,c,e,z⟩
   ·refine .inl ⟨k,?_⟩
    show (if y=x then v else m y)=some u'
    rw [if_neg fun z:y=x=>hj (nodup_ix hN e1 (z ▸ hi))]
    exact e
   ·exact .inr ⟨k,c,e,z.sameBut hs (cne y c e)⟩
 ·obtain ⟨w',z⟩:=I.cell y c e
  exact ⟨w',z.sameBut hs (cne y c e)⟩
 ·obtain ⟨e,n,ne,nf,d⟩:=I.pin p hp
  exact ⟨(hs.2 p.1 ne).trans e,n,ne,nf,d⟩
 ·subst z
  rcases hc with z | z
  ·rw [← z,I.free] at e; cases e
  ·rw [I.free] at z; cases z
end
end L2
namespace L2
open PySem PySem.Spec PyProof.Rows
section
variable {prog:Program} {w:World} {A:Around} {E:Value→Shared→Prop} {s:Shared} {K:PySem.W.Frag}
end
section
variable {X:Cx}
end
end L2
namespace L2
open PySem PySem.Spec PyProof.Rows
section
variable {X:Cx} {pins:List (Addr×Obj)} {σ:St} {H1:Hp} {s1 s':Shared} {C:Addr} {bmB:List Value} {newId:String} {E:XK} {ie:Nat} {cn en:Str} {np hpos:Pos} {b₀:Stmt} {suite:List Stmt} {D:Ends} {e:Value} {ts:Addr→TS}
theorem caught (I1:Inv X pins σ H1 s1) (hst:X.stack=X.env :: X.outer) (hfr:X.env.frame=some X.env.locals) (hN:X.N.Nodup) (hie:X.N[ie]?=some en) (hen:X.env.scope.names.lookup en=some .local)
  (hg:Gl X cn) (hm:X.mg cn=some (.ref C)) (q:PySem.W.excIn X.K C bmB newId=true) (hb:bmB.contains (.type "BaseException")=true) (hdb:(cn == ("__debug__":Str))=false)
  (hs:∀ a ob,ob.cls=.ref C→PSs (X.held pins a ob) (b₀ :: suite) (ts a))
  (hc:CXN X.prog X.w X.stack H1 s1 (fun c _ H2=>c=.ref C∧∀ a,ts a { nx:=fun σ' H'=>D.nx (σ'.set ie none) H',rt:=fun _ _=>False } (σ.set ie (some (.ref a))) H2) e s') {E':Value→Shared→Prop} :
  wpAny (model X.prog X.w) X.A (noteFrame e X.env) (fun _ s₂=>wpAny (model X.prog X.w) X.A (setFlight e none) (fun _ s₃=>wpAny (model X.prog X.w) X.A (handleBy e X.env [.ExceptHandler (some (.Name cn np)) (some en) (b₀ :: suite) hpos]) (SP X pins D) E' s₃) E' s₂) E' s':=by
 obtain ⟨a,T,c,a0,H',rfl,os,bare,un,hok,⟨oe,vs,oT,tv,he,hcl,hd,h1,hTa,hT,hdT,h3⟩,na,nT,fa,fT,rfl,rd⟩:=hc
 obtain ⟨hh,g,d,tk,os'⟩:=s'
 dsimp only at os bare un hok he hT
 have I':Inv X pins σ H' ⟨hh,g,d,tk,os'⟩:=I1.call' (ch:=[]) os un hok bare fun b z=>nomatch z
 have nn:∀ b∈[a,T] ++ frs X.stack,H' b=none:=fun b hb=>by
  rcases List.mem_append.mp hb with hb | hb
  ·rcases List.mem_cons.mp hb with rfl | hb
   ·exact na
   ·obtain rfl:=List.mem_singleton.mp hb
    exact nT
  ·exact I'.stkFree b hb
 have inv:∀ h5,Heap.FlyingW (PySem.W.hideAll hh ([a,T] ++ frs X.stack)) X.stack a (.ref C) a0 h5→hh.UpToSlots h5→Inv X pins σ H' ⟨h5,g,d,tk,os'⟩∧∃ ob,ob.cls=.ref C∧h5.get? a=some ob∧H' a=none∧a≠X.env.locals∧a ∉ X.fs∧∀ v,ob.data≠.cell v:=fun h5 fl up=>by
  have J:Inv X pins σ H' ⟨h5,g,d,tk,os'⟩:=I1.call' (ch:=[]) os (un.fly fl.1 up (fun b hb=>by
   rcases List.mem_cons.mp hb with rfl | hb
   ·exact fa
   ·obtain rfl:=List.mem_singleton.mp hb
    exact fT) (fun b hb=>.inl hb) I1.frs_nf) (hok.fly fl.1 nn) bare fun b z=>nomatch z
  obtain ⟨ob,ws,_,_,_,e1,⟨e2,_⟩,e3,_⟩:=fl.2.2.2
  refine ⟨J,ob,e2,e1,na,fun z=>?_,fun z=>?_,fun v z=>by rw [e3] at z; cases z⟩
  ·obtain ⟨m,⟨o,_,_,ho,_⟩,_⟩:=I1.loc
   rw [← z,fa] at ho; cases ho
  ·obtain ⟨_,o,ho,_⟩:=I1.ok.funs.mem z
   obtain ⟨o',e'⟩:=I1.base.any ho (I1.ok.frf a z) (fun y=>I1.ok.exfs a y z)
   rw [fa] at e'; cases e'
 have fl:Heap.FlyingW (PySem.W.hideAll hh ([a,T] ++ frs X.stack)) X.stack a (.ref C) a0 hh:=⟨fun b o z=>PySem.W.of_hideAll _ z,PySem.W.hideAll_none _ (by simp),frames_hid I'.stack,oe,vs,T,oT,tv,he,hcl,hd,h1,PySem.W.hideAll_none _ (by simp),hTa,hT,hdT,h3⟩
 have fr:=I'.ok.frames
 generalize PySem.W.hideAll hh ([a,T] ++ frs X.stack)=B at inv fl
 rw [hst] at fl inv fr
 refine wpAny_looks_onW fr hfr fl fun h4 g4 u4=>?_
 refine wpAny_landsW g4 fun h5 g5 u5=>?_
 dsimp only at u4 u5 g4 ⊢
 obtain ⟨I5,ob5,c5,p5⟩:=inv h5 g5 (u4.trans u5)
 obtain ⟨bm,N,nm,qn,bs,hdct,sn,sub,ab,col,dd,k0,k1,k2,k3,k5,mN,hC,hNs,hni,TL⟩:=exc_obj I5.mod.kin q
 refine wpAny_handleBy_cons (codeAny_handlers_test (ld_glob (X:=X.held pins a ob5) (I5.hold p5) hg hm ?_ hdb)) (by intro z; cases z)
 refine wpAny_excMatches_sub_self (I5.bk _ _ hC) p5.1 c5 (TL.hasType hb) (codeAny_handlers_suite_as ?_)
 refine lands_againW g5 fun h6 g6 u6=>?_
 dsimp only at u6 ⊢
 obtain ⟨I6,ob6,c6,p6⟩:=inv h6 g6 ((u4.trans u5).trans u6)
 refine store_ok (X:=X.held pins a ob6) (v:=.ref a) (I6.hold p6) hN hie (.inl hen) rfl (fun s7 I7=>?_) (.inr hen)
 refine wpAny_mono (hs a ob6 c6 [] s7 _ _ _ I7 (rd a)) (fun fw s8 h8=>?_) fun _ _ z=>False.elim z
 cases fw with
 | next =>
  obtain ⟨σ',H2,I8,q8⟩:=h8
  exact name_goes (I8.unhold I1.ok) hN hie hen fun s9 I9=>⟨_,_,I9,q8⟩
 | brk=>obtain ⟨_,_,_,z⟩:=h8; exact False.elim z
 | cont=>obtain ⟨_,_,_,z⟩:=h8; exact False.elim z
 | ret u=>obtain ⟨_,_,_,_,_,z⟩:=h8; exact False.elim z
end
section
variable {X:Cx} {C:Addr} {bmB:List Value} {newId:String} {i ie k:Nat} {x y cn en:Str} {ps:List Str} {sp:Sp} {p1 p2 p3 cpos apos hpos pos:Pos} {e:Expr} {es:List Expr} {t:TA} {b₀:Stmt} {suite:List Stmt} {ts:Addr→TS}
end
end L2
set_option Elab.async false
set_option linter.all false
set_option maxRecDepth 100000
set_option maxHeartbeats 4100000
namespace L2
open PySem PySem.Spec PyProof.Rows
section
variable {prog:Program} {w:World} {A:Around} {E:Value→Shared→Prop} {h:Heap} {g:Array GenState} {d:Drawn} {t:Nat} {os:OsState}
variable {nm q:Str} {C N fI:Addr} {bs bm bmB bmN:List Value} {hdct:Bool} {sn:List Str} {sub:List Value} {ab:Bool} {col:Option Bool} {dd:Option Addr} {k0 k1 k2 k3 k5:Option Value} {B Bn newId nid initId inN:String} {oI:Obj}
noncomputable abbrev newX (h:Heap) (C:Addr) (rest:List Value):Heap:=(h.push { cls:=.type "tuple",data:=.seq rest.toArray }).push { cls:=.ref C,data:=.fields #[.ref h.objs.size,.none,.none,.none,.bool false,.none] }
theorem newX_keep {rest:List Value}:∀ b o,h.get? b=some o→(newX h C rest).get? b=some o:=fun b o e=>Heap.get?_push_of_some _ (Heap.get?_push_of_some _ e)
theorem newX_at {rest:List Value}:(newX h C rest).get? (h.objs.size + 1)=some { cls:=.ref C,data:=.fields #[.ref h.objs.size,.none,.none,.none,.bool false,.none] }:=by heap_get
theorem typeCall_init (Fn:ExcBaseFacts Bn newId inN bmN) (hBn:bmB.contains (.type Bn)=true) (F:ExcBaseFacts B nid initId bmB) (T:OwnTail h bmB bm) {mN:Str→Option Value} {rest:List Value} {Q:Fin→Shared→Prop}
  (hC:h.get? C=some (excClassObj nm q C N bs bm hdct sn sub ab col dd k0 k1 k2 k3 k5 newId)) (hn:h.Ns N mN) (hi:mN "__init__"=some (.ref fI)) (hf:h.get? fI=some oI) (hc:oI.cls=.type "function") (hr:rest.length≤sizeLine)
  (hq:∀ h' e,Heap.MadeExcOf h h' e (.ref C) rest→wpAny (model prog w) A (call (.ref fI) (.ref e :: rest)) (fun r s'=>r=.none∧Q (.done (.ret (.ref e))) s') E ⟨h',g,d,t,os⟩) :
  wpAny (model prog w) A (Builtin.«type.__call__» ⟨.ref C :: rest,[]⟩) Q E ⟨h,g,d,t,os⟩:=by
 repeat (first | with_reducible refine wpAny_loadPart_at hC ?_ | with_reducible refine wpAny_madeBy_exc hC ?_ | wp_step)
 refine codeAny_call_builtin_code (Code.quiet_builtin _ Fn.quiet) (wpAny_check_new_subU Fn hBn T hC (codeAny_exc_new_subU Fn hBn F T hC ?_ hr))
 show wpAny _ _ _ _ _ _
 have hC1:=newX_keep (C:=C) (rest:=rest) _ _ hC
 have hN1:=hn.keeps (newX_keep (C:=C) (rest:=rest))
 have hcc:(Value.ref C :: bm).contains (.ref C)=true:=by rw [List.contains_cons,beq_self_eq_true,Bool.true_or]
 have hx:(newX h C rest).get? (h.objs.size + 1)=some { cls:=.ref C,data:=.fields #[.ref h.objs.size,.none,.none,.none,.bool false,.none] }:=newX_at
 unfold isInstance
 repeat (first | with_reducible refine wpAny_loadPart_at hx ?_ | (with_reducible refine wpAny_isSubtype_exc hC1 ?_; rw [hcc]) | wp_step)
 show wpAny _ _ (typeLookup (.ref C) _) _ _ _
 refine wpAny_typeLookup_tail hC1 hN1 (T.keeps newX_keep) F.mroIs F.init.lookup ?_
 rw [hi]
 refine wpAny_holding (wpAny_bind ?_)
 unfold bindSpecial
 refine wpAny_bind (wpAny_typeOf (T:="function") ⟨_,newX_keep _ _ hf,hc⟩ ?_)
 rw [if_pos (by decide)]
 refine wpAny_pure (wpAny_bind (wpAny_mono (hq (newX h C rest) (h.objs.size + 1) ⟨newX_keep,Heap.get?_none_of_le (Nat.le_succ _),h.objs.size,hx,Heap.get?_none_of_le (Nat.le_refl _),?_⟩) (fun r s' hr=>?_) fun _ _ y=>y))
 ·exact Heap.get?_push_of_some _ (Heap.get?_push_at rfl rfl)
 ·obtain ⟨rfl,hQ⟩:=hr
  wp_walk
  exact hQ
theorem call_init (Fn:ExcBaseFacts Bn newId inN bmN) (hBn:bmB.contains (.type Bn)=true) (F:ExcBaseFacts B nid initId bmB) (T:OwnTail h bmB bm) {mN:Str→Option Value} {rest:List Value} {Q:Value→Shared→Prop}
  (hC:h.get? C=some (excClassObj nm q C N bs bm hdct sn sub ab col dd k0 k1 k2 k3 k5 newId)) (hn:h.Ns N mN) (hi:mN "__init__"=some (.ref fI)) (hf:h.get? fI=some oI) (hc:oI.cls=.type "function") (hr:rest.length≤sizeLine)
  (hq:∀ h' e,Heap.MadeExcOf h h' e (.ref C) rest→wpAny (model prog w) (A.under (.builtin "type.__call__" ⟨.ref C :: rest,[]⟩)) (call (.ref fI) (.ref e :: rest)) (fun r s'=>r=.none∧Q (.ref e) s') E ⟨h',g,d,t,os⟩) :
  wpAny (model prog w) A (call (.ref C) rest) Q E ⟨h,g,d,t,os⟩:=by
 have f1:=tc_lookup
 have f2:=tc_bind (.ref C)
 have hT:(⟨h,g,d,t,os⟩:Shared).TypeIs (.ref C) "type":=⟨_,hC,rfl⟩
 refine wpAny_call (codeAny_of_tree ?_)
 show wpAny _ _ (callAny (.ref C) _) _ _ _
 repeat (any_goals (first | assumption | with_reducible refine wpAny_loadPart_at hC ?_ | wp_step))
 exact ⟨rfl,codeAny_call_builtin_at (Code.quiet_builtin _ (by decide +kernel)) entry_typeCall (wpAny_check_type_call_sub hC (typeCall_init Fn hBn F T hC hn hi hf hc hr hq))⟩
end
end L2
set_option Elab.async false
set_option linter.all false
set_option maxRecDepth 100000
set_option maxHeartbeats 4100000
namespace L2
open PySem PySem.Spec PyProof.Rows
noncomputable def TrD (h B:Heap) (e:Addr) (c a0:Value) (dx:Option Addr) (fl:Value):Prop :=
 Ex_5_9 (fun oe vs T oT ts=>h.get? e=some oe) (fun oe vs T oT ts=>(oe.cls=c∧vs[0]?=some a0∧oe.dict=dx)) (fun oe vs T oT ts=>oe.data=.fields vs) (fun oe vs T oT ts=>vs[1]?=some (.ref T)) (fun oe vs T oT ts=>B.get? T=none) (fun oe vs T oT ts=>T≠e) (fun oe vs T oT ts=>h.get? T=some oT) (fun oe vs T oT ts=>oT.data=.fields ts) (fun oe vs T oT ts=>ts[3]?=some fl)
noncomputable def FlyD (B:Heap) (l:List Env) (e:Addr) (c a0:Value) (dx:Option Addr) (fl:Value) (h:Heap):Prop :=
 B.StaysIn h∧B.get? e=none∧h.FunFrames B l∧TrD h B e c a0 dx fl
theorem dict_mapFields (f:Array Value→Array Value) (o:Obj):(Obj.mapFields f o).dict=o.dict:=by
 unfold Obj.mapFields
 split <;> rfl
section
variable {M:Model} {A:Around} {E:Value→Shared→Prop} {s:Shared} {B:Heap} {env:Env} {outer l:List Env} {L e:Addr} {Q:Unit→Shared→Prop} {oe:Obj} {vs:Array Value} {hd0 a0 c fl:Value} {nx:Bool} {dx:Option Addr}
theorem entryD (fr:A.frames=some (env :: outer)) (fm:s.heap.FunFrames B (env :: outer)) (ef:env.frame=some L)
  (x0:s.heap.get? e=some oe) (kb:B.StaysIn s.heap) (nb:B.get? e=none) (dt:oe.data=.fields vs) (sz:1 < vs.size) (v0:vs[0]?=some a0)
  (h:∀ h',FlyD B (env :: outer) e oe.cls a0 oe.dict (rawInt L) h'→s.heap.UpToSlots h'→Q () { s with heap:=h' }) :
  wpAny M A (do let a ← frameOf env; let pl ← entryPlaceOf L nx; let b ← EntryCells.newEntry hd0 a .none (rawInt L) .none pl; setField (.ref e) 1 b) Q E s:=by
 have out:e ∉ (env :: outer).filterMap (·.frame):=fun hm=>by
  obtain ⟨_,o,ho,nf⟩:=fm.mem hm
  rw [x0] at ho; cases ho; exact nf vs dt
 refine wpAny_bind (wpAny_frameOf_fun fr fm ef fun h1 so=>wpAny_bind (wpAny_entryPlaceOf fun pl hp=>?_))
 unfold EntryCells.newEntry newFields
 refine wpAny_bind (wpAny_newObj_type ?_ (hp.sizeOk5 _ _ _ _ _))
 have x1:h1.get? e=some oe:=(so.2.1 e out).trans x0
 have k1:B.StaysIn h1:=fun b o z=>(so.2.1 b fun hm=>by rw [(fm.mem hm).1] at z; cases z).trans (kb b o z)
 have t3:([hd0,.ref L,.none,rawInt L,.none] ++ (if pl.isEmpty then List.replicate 6 Value.none else pl)).toArray[3]?=some (rawInt L):=by
  rcases hp with rfl | ⟨_,_,_,_,_,_,_,rfl⟩ <;> simp
 have x2:=Heap.get?_push_of_some (h:=h1) { cls:=.type "traceback",dict:=none,data:=.fields ([hd0,.ref L,.none,rawInt L,.none] ++ (if pl.isEmpty then List.replicate 6 Value.none else pl)).toArray } x1
 have y2:=Heap.get?_push_size h1 (o:={ cls:=.type "traceback",dict:=none,data:=.fields ([hd0,.ref L,.none,rawInt L,.none] ++ (if pl.isEmpty then List.replicate 6 Value.none else pl)).toArray }) rfl
 refine wpAny_setField x2 dt sz ?_
 generalize ([hd0,.ref L,.none,rawInt L,.none] ++ (if pl.isEmpty then List.replicate 6 Value.none else pl)).toArray=ws at *
 have nT:h1.objs.size≠e:=Nat.ne_of_gt (Heap.lt_size x1)
 have d3:=Obj.data_mapFields dt (·.setIfInBounds 1 (Value.ref h1.objs.size))
 have x3:=Heap.get?_update_self (Obj.mapFields (·.setIfInBounds 1 (Value.ref h1.objs.size))) x2 (Obj.isFreed_of_fields d3)
 have keep:∀ b o,b≠e→h1.get? b=some o→((h1.push { cls:=.type "traceback",dict:=none,data:=.fields ws }).update e (Obj.mapFields (·.setIfInBounds 1 (Value.ref h1.objs.size)))).get? b=some o:=fun b o q z=>by
  rw [Heap.get?_update_other _ _ (Ne.symm q)]; exact Heap.get?_push_of_some _ z
 have nr:∀ b o,s.heap.get? b=some o→(∀ ws,o.data≠.fields ws)→b≠e:=fun b o z nf q=>by
  rw [q,x0] at z; cases z; exact nf vs dt
 refine h _ ⟨fun b o z=>keep b o (fun q=>by rw [q,nb] at z; cases z) (k1 b o z),nb,fm.of_keeps fun b o z nf=>?_,_,_,h1.objs.size,_,_,x3,⟨Obj.cls_mapFields _ _,?_,dict_mapFields _ _⟩,d3,by simp [sz],k1.fresh,nT,(Heap.get?_update_other _ _ (Ne.symm nT)).trans y2,rfl,t3⟩ fun b o z nf=>?_
 ·obtain ⟨sl,q⟩:=so.2.2 b o z
  exact ⟨_,keep b _ (nr b o z nf) q,rfl⟩
 ·rw [Array.getElem?_setIfInBounds_ne (by decide)]; exact v0
 ·obtain ⟨sl,q⟩:=so.2.2 b o z
  exact ⟨sl,keep b _ (nr b o z nf) q⟩
theorem flightD (f:FlyD B l e c a0 dx fl s.heap) (h:∀ h',FlyD B l e c a0 dx .none h'→s.heap.UpToSlots h'→Q () { s with heap:=h' }):wpAny M A (setFlight (.ref e) none) Q E s:=by
 obtain ⟨kb,nb,fm,oe,vs,T,oT,ts,x0,xc,dt,v1,nT,te,y0,yd,y3⟩:=f
 have s3:3 < ts.size:=(Array.getElem?_eq_some_iff.mp y3).1
 have oth:∀ b,b≠T→(s.heap.update T (Obj.mapFields (·.setIfInBounds 3 ((none:Option Addr).elim Value.none fun f=>rawInt f)))).get? b=s.heap.get? b:=fun b q=>Heap.get?_update_other _ _ (Ne.symm q)
 have nr:∀ b o,s.heap.get? b=some o→(∀ ws,o.data≠.fields ws)→b≠T:=fun b o z nf q=>by
  rw [q,y0] at z; cases z; exact nf ts yd
 unfold setFlight
 refine wpAny_bind (wpAny_field x0 dt v1 ?_)
 rw [if_pos (by simp:(Value.ref T != Value.none)=true)]
 refine wpAny_setField y0 yd s3 (h _ ⟨fun b o z=>(oth b fun q=>by rw [q,nT] at z; cases z).trans (kb b o z),nb,fm.of_keeps fun b o z nf=>⟨o,(oth b (nr b o z nf)).trans z,rfl⟩,oe,vs,T,_,_,(oth e (Ne.symm te)).trans x0,xc,dt,v1,nT,te,Heap.get?_update_self _ y0 (Obj.isFreed_of_fields (Obj.data_mapFields yd _)),Obj.data_mapFields yd _,by simp [s3]⟩ fun b o z nf=>⟨o.slots,(oth b (nr b o z nf)).trans z⟩)
theorem noteD (fr:A.frames=some (env :: outer)) (ef:env.frame=some L) (f:FlyD B (env :: outer) e c a0 dx .none s.heap)
  (h:∀ h',FlyD B (env :: outer) e c a0 dx (rawInt L) h'→s.heap.UpToSlots h'→Q () { s with heap:=h' }):wpAny M A (noteFrame (.ref e) env) Q E s:=by
 obtain ⟨kb,nb,fm,oe,vs,T,oT,ts,x0,⟨rfl,v0,rfl⟩,dt,v1,nT,te,y0,yd,y3⟩:=f
 have oth:∀ b,b≠T→(s.heap.update T (Obj.mapFields (·.setIfInBounds 3 Value.none))).get? b=s.heap.get? b:=fun b q=>Heap.get?_update_other _ _ (Ne.symm q)
 have nr:∀ b o,s.heap.get? b=some o→(∀ ws,o.data≠.fields ws)→b≠T:=fun b o z nf q=>by
  rw [q,y0] at z; cases z; exact nf ts yd
 unfold noteFrame
 simp only [ef]
 refine wpAny_bind (wpAny_field x0 dt v1 ?_)
 rw [if_pos (by simp:(Value.ref T != Value.none)=true)]
 refine wpAny_bind (wpAny_field y0 yd y3 ?_)
 rw [if_neg (by simp [rawInt]:¬ ((Value.none == rawInt L)=true))]
 refine wpAny_bind (wpAny_setField y0 yd (Array.getElem?_eq_some_iff.mp y3).1 ?_)
 exact entryD fr (fm.of_keeps fun b o z nf=>⟨o,(oth b (nr b o z nf)).trans z,rfl⟩) ef ((oth e (Ne.symm te)).trans x0) (fun b o z=>(oth b fun q=>by rw [q,nT] at z; cases z).trans (kb b o z)) nb dt (Array.getElem?_eq_some_iff.mp v1).1 v0
  fun h' g u=>h h' g fun b o z nf=>u b o ((oth b (nr b o z nf)).trans z) nf
theorem leaveD (fr:A.frames=some (env :: outer)) (fm:s.heap.FunFrames B (env :: outer)) (ef:env.frame=some L) (x0:s.heap.get? e=some oe) (kb:B.StaysIn s.heap) (nb:B.get? e=none) (dt:oe.data=.fields vs) (v1:vs[1]?=some .none) (v0:vs[0]?=some a0)
  (h:∀ h',FlyD B (env :: outer) e oe.cls a0 oe.dict .none h'→s.heap.UpToSlots h'→Q () { s with heap:=h' }):wpAny M A («leaving» env (.ref e)) Q E s:=by
 unfold «leaving» noteFrame
 simp only [ef]
 refine wpAny_bind (wpAny_bind (wpAny_field x0 dt v1 ?_))
 rw [if_neg (by decide)]
 exact entryD fr fm ef x0 kb nb dt (Array.getElem?_eq_some_iff.mp v1).1 v0 fun h1 f1 u1=>flightD (s:={ s with heap:=h1 }) f1 fun h2 f2 u2=>h h2 f2 (u1.trans u2)
end
noncomputable def CXD (P:Program) (w:World):CXT:=fun outer H s E e s' =>
 Ex_6_11 (fun a T c a0 dx H'=>e=.ref a) (fun a T c a0 dx H'=>s'.os=s.os) (fun a T c a0 dx H'=>AllBare s'.gens) (fun a T c a0 dx H'=>Un (frs outer) [] H H' s.heap s'.heap) (fun a T c a0 dx H'=>HOk P w H' s'.heap) (fun a T c a0 dx H'=>(Ex_4_8 (fun oe vs oT ts=>s'.heap.get? a=some oe) (fun oe vs oT ts=>(oe.cls=c∧vs[0]?=some a0∧oe.dict=dx)) (fun oe vs oT ts=>oe.data=.fields vs) (fun oe vs oT ts=>vs[1]?=some (.ref T)) (fun oe vs oT ts=>T≠a) (fun oe vs oT ts=>s'.heap.get? T=some oT) (fun oe vs oT ts=>oT.data=.fields ts) (fun oe vs oT ts=>ts[3]?=some .none))) (fun a T c a0 dx H'=>H' a=none) (fun a T c a0 dx H'=>H' T=none) (fun a T c a0 dx H'=>s.heap.get? a=none) (fun a T c a0 dx H'=>s.heap.get? T=none) (fun a T c a0 dx H'=>E c dx H')
noncomputable def ExO (a:Addr) (ob:Obj):HO:=.ext fun h=>h.get? a=some ob
noncomputable def excObj (c:Value) (dx:Option Addr) (t:Addr):Obj:={ cls:=c,dict:=dx,data:=.fields #[.ref t,.none,.none,.none,.bool false,.none] }
noncomputable def del (H:Hp) (a:Addr):Hp:=fun b=>if b=a then none else H b
theorem del_same {H:Hp} {a:Addr}:del H a a=none:=by unfold del; rw [if_pos rfl]
theorem del_ne {H:Hp} {a b:Addr} (h:b≠a):del H a b=H b:=by unfold del; rw [if_neg h]
theorem del_some {H:Hp} {a b:Addr} {o:HO} (h:del H a b=some o):b≠a∧H b=some o:=by
 by_cases q:b=a
 ·rw [q,del_same] at h; cases h
 ·exact ⟨q,by rw [del_ne q] at h; exact h⟩
theorem del_none {H:Hp} {a b:Addr} (h:H b=none):del H a b=none:=by
 by_cases q:b=a
 ·rw [q]; exact del_same
 ·rw [del_ne q]; exact h
theorem Same.del {H H':Hp} {a:Addr} (s:Same H H') (h:H a=none):Same H (del H' a):=fun b o e=>by
 rw [del_ne (ne_of_none e h)]; exact s b o e
section
variable {X:Cx} {pins:List (Addr×Obj)} {σ:St} {H:Hp} {s:Shared} {h':Heap} {a:Addr} {c a0:Value} {dx:Option Addr} {L:List Addr} {E:XK} {φ:Heap→Prop} {ob:Obj}
theorem Inv.untrack (I:Inv X pins σ H s) (ha:H a=some (.ext φ)) (h0:X.H₀ a=none):Inv X pins σ (del H a) s:=by
 have ne:∀ {b:Addr} {o:HO},H b=some o→(∀ ψ,o≠.ext ψ)→b≠a:=fun {b o} e n z=>by
  rw [z,ha] at e; exact n _ (Option.some.inj e).symm
 refine ⟨I.ok,I.os,I.bare,⟨I.base.keep,I.base.slot,fun b o e n hx=>del_none (I.base.free b o e n hx),I.base.there,fun b xs e=>?_,fun b o u e=>?_,fun b ps e=>?_⟩,I.loc,I.cell,del_none I.free,fun x c e=>del_none (I.freeC x c e),fun p hp=>?_,fun b o e=>?_,I.len⟩
 ·have q:=I.base.tups b xs e
  rw [del_ne (ne q fun _ z=>nomatch z)]; exact q
 ·have q:=I.base.frzs b o u e
  rw [del_ne (ne q fun _ z=>nomatch z)]; exact q
 ·obtain ⟨m,q⟩:=I.base.tbls b ps e
  exact ⟨m,by rw [del_ne (ne q fun _ z=>nomatch z)]; exact q⟩
 ·obtain ⟨q1,q2,q3⟩:=I.pin p hp
  exact ⟨q1,del_none q2,q3⟩
 ·obtain ⟨n,e⟩:=del_some e
  exact (I.hok b o e).stay (fun _ _ _ q=>q) (fun c q=>by rw [del_ne (ne q fun _ z=>nomatch z)]; exact q) fun c xs q=>by rw [del_ne (ne q fun _ z=>nomatch z)]; exact q
theorem Inv.exo (I:Inv X pins σ H s) (h:H a=some (ExO a ob)):s.heap.get? a=some ob:=(I.hok a _ h).1
theorem Inv.exo_new (I:Inv X pins σ H s) (ha:H a=some (.ext φ)) (h0:X.H₀ a=none) (hx:X.ex=[]):X.s₀.heap.get? a=none:=by
 cases z:X.s₀.heap.get? a with
 | none=>rfl
 | some o =>
  have:=I.base.free a o z h0 (by rw [hx]; exact fun y=>nomatch y)
  rw [ha] at this; cases this
theorem left_cxd (I:Inv X pins σ H s) (hx:X.ex=[]) (hst:X.stack=X.env :: X.outer) (hfr:X.env.frame=some X.env.locals) (hL:∀ b∈L,H b=none∧X.s₀.heap.get? b=none) (ha:a∈L)
  (hh:FlyD (PySem.W.hideAll s.heap (L ++ frs X.stack)) X.stack a c a0 dx .none h') (k4:s.heap.UpToSlots h') (q:E c dx H):CXD X.prog X.w X.outer X.H₀ X.s₀ E (.ref a) { s with heap:=h' }:=by
 obtain ⟨k1,_,k2,oe,vs,T,oT,ts,he,hc,hd,h1,hnT,hTa,hT,hdT,h3⟩:=hh
 have un:Un (frs X.outer) [] X.H₀ H X.s₀.heap s.heap:=by have:=I.base; rw [hx] at this; exact this
 have outT:T ∉ frs X.stack:=fun hm=>by
  obtain ⟨_,o,e,nf⟩:=k2.mem hm
  rw [hT] at e; cases e
  exact nf _ hdT
 have notT:∀ o,s.heap.get? T=some o→T∈L:=fun o e=>by
  by_cases hm:T∈L
  ·exact hm
  ·have:=PySem.W.hideAll_get (L ++ frs X.stack) e fun z=>(List.mem_append.mp z).elim hm outT
   rw [hnT] at this; cases this
 have nT:H T=none∧X.s₀.heap.get? T=none:=by
  by_cases hm:T∈L
  ·exact hL T hm
  ·have e:s.heap.get? T=none:=by
    cases z:s.heap.get? T with
    | none=>rfl
    | some o=>exact absurd (notT o z) hm
   refine ⟨I.hok.none_of e,?_⟩
   cases z:X.s₀.heap.get? T with
   | none=>rfl
   | some o =>
    obtain ⟨o',e'⟩:=un.there T o z (by simp)
    rw [e] at e'; cases e'
 refine ⟨a,T,c,a0,dx,H,rfl,I.os,I.bare,un.fly k1 k4 (fun b hb=>(hL b hb).2) (fun b hb=>?_) (fun b hb=>?_),I.hok.fly k1 fun b hb=>?_,⟨oe,vs,oT,ts,he,hc,hd,h1,hTa,hT,hdT,h3⟩,(hL a ha).1,nT.1,(hL a ha).2,nT.2,q⟩
 ·rw [hst] at hb
  unfold frs at hb
  rw [List.filterMap_cons,hfr] at hb
  rcases List.mem_cons.mp hb with rfl | hb
  ·exact .inr (Heap.get?_none_of_le I.ok.above)
  ·exact .inl hb
 ·obtain ⟨_,o,e,nf⟩:=I.ok.funs.mem hb
  exact ⟨I.ok.frf b hb,o,e,nf⟩
 ·rcases List.mem_append.mp hb with hb | hb
  ·exact (hL b hb).1
  ·exact I.stkFree b hb
end
noncomputable def excAny (K:PySem.W.Frag) (C:Addr) (bmB:List Value) (newId:String) (ini:Option Value):Bool:=match K.lookup C with
 | some ⟨.type "type",_,.cls cd,sl⟩=>(match cd.mro,sl.toList with
  | .ref C' :: bm,[_,_,_,_,some (.builtin n),_]=>C' == C && n == newId && !cd.hasDel && cd.hasDict && PySem.W.tailIn K bmB bm && PySem.W.nsOkIn K cd.ns && PySem.W.nsIn K cd.ns "__init__" == some ini
  | _,_=>false)
 | _=>false
theorem ns_at {K:PySem.W.Frag} {h:Heap} {N:Addr} {m:Str→Option Value} {n:Str} {r:Option Value} (X:K.In h) (G:h.Ns N m) (e:PySem.W.nsIn K N n=some r):m n=r:=by
 obtain ⟨o,es,ep,ho,hd,_,hf⟩:=G
 unfold PySem.W.nsIn at e
 split at e
 ·next c d es' n' sl q =>
  have z:=X _ _ q
  rw [ho] at z
  cases z
  cases hd
  rw [← hf]
  unfold nsFind findBy
  rw [← Array.find?_toList]
  split at e
  ·next y hy=>cases e; rw [hy]; rfl
  ·next hy =>
   rw [hy]
   split at e
   ·cases e
   ·cases e; rfl
 ·cases e
theorem exc_any {K:PySem.W.Frag} {h:Heap} {C:Addr} {bmB:List Value} {newId:String} {ini:Option Value} (X:K.In h) (q:excAny K C bmB newId ini=true) :
  Ex_16_4 (fun bm N nm qn bs sn sub ab col dd k0 k1 k2 k3 k5 mN=>h.get? C=some (excClassObj nm qn C N bs bm true sn sub ab col dd k0 k1 k2 k3 k5 newId)) (fun bm N nm qn bs sn sub ab col dd k0 k1 k2 k3 k5 mN=>h.Ns N mN) (fun bm N nm qn bs sn sub ab col dd k0 k1 k2 k3 k5 mN=>mN "__init__"=ini) (fun bm N nm qn bs sn sub ab col dd k0 k1 k2 k3 k5 mN=>OwnTail h bmB bm):=by
 unfold excAny at q
 split at q
 ·next dd cd sl ho =>
  split at q
  ·next C1 bm k0 k1 k2 k3 n k5 hm hs =>
   obtain ⟨nm,bs,mro,ns,qn,hd,sn,sub,ab,col,del⟩:=cd
   obtain ⟨l⟩:=sl
   simp only [Bool.and_eq_true,beq_iff_eq,Bool.not_eq_true'] at q hm hs
   obtain ⟨⟨⟨⟨⟨⟨e1,e2⟩,e3⟩,e7⟩,e4⟩,e5⟩,e6⟩:=q
   subst e1 e2 e3 e7 hm hs
   exact ⟨bm,ns,nm,qn,bs,sn,sub,ab,col,dd,k0,k1,k2,k3,k5,_,X _ _ ho,.of_isNs (PySem.W.isNs_of_in X e5),ns_at X (.of_isNs (PySem.W.isNs_of_in X e5)) e6,PySem.W.tail_of_in X e4⟩
  ·cases q
 ·cases q
noncomputable abbrev veB:List Value:=[.type "ValueError",.type "Exception",.type "BaseException",.type "object"]
noncomputable def xclsIn (K:PySem.W.Frag) (C:Addr):Bool :=
 PySem.W.findIn K (.ref C) "__getattribute__" == some (some (.builtin "BaseException.__getattribute__")) && PySem.W.findIn K (.ref C) "__getattr__" == some none &&
 PySem.W.findIn K (.ref C) "__setattr__" == some (some (.builtin "object.__setattr__")) && PySem.W.hasDictIn K C && PySem.W.mroIn K C (.type "BaseException") == some true && PySem.W.mroIn K C (.type "object") == some true &&
 PySem.W.findIn K (.ref C) "__class__" == some (some (.builtin "object.__class__")) && PySem.W.specialIn K (.builtin "object.__class__") "__get__" == some (some (.builtin "getset_descriptor.__get__")) && PySem.W.takesIn K (.builtin "object.__class__") == some true
structure XCls (K:PySem.W.Frag) (C:Addr):Prop where
 ga:PySem.W.findIn K (.ref C) "__getattribute__"=some (some (.builtin "BaseException.__getattribute__"))
 gh:PySem.W.findIn K (.ref C) "__getattr__"=some none
 sa:PySem.W.findIn K (.ref C) "__setattr__"=some (some (.builtin "object.__setattr__"))
 hd:PySem.W.hasDictIn K C=true
 be:PySem.W.mroIn K C (.type "BaseException")=some true
 ob:PySem.W.mroIn K C (.type "object")=some true
 cl:PySem.W.findIn K (.ref C) "__class__"=some (some (.builtin "object.__class__"))
 cg:PySem.W.specialIn K (.builtin "object.__class__") "__get__"=some (some (.builtin "getset_descriptor.__get__"))
 ct:PySem.W.takesIn K (.builtin "object.__class__")=some true
theorem xcls_of {K:PySem.W.Frag} {C:Addr} (h:xclsIn K C=true):XCls K C:=by
 unfold xclsIn at h
 simp only [Bool.and_eq_true,beq_iff_eq] at h
 obtain ⟨⟨⟨⟨⟨⟨⟨⟨h1,h2⟩,h3⟩,h4⟩,h5⟩,h6⟩,h7⟩,h8⟩,h9⟩:=h
 exact ⟨h1,h2,h3,h4,h5,h6,h7,h8,h9⟩
end L2
set_option Elab.async false
set_option linter.all false
set_option maxRecDepth 100000
set_option maxHeartbeats 1000000
namespace L2
open PySem PySem.Spec PyProof.Rows
section
open PySem.W
variable {prog:Program} {w:World} {A:Around} {E:Value→Shared→Prop} {s:Shared} {K:PySem.W.Frag} {x C:Addr} {ox:Obj} {od:Option Obj} {name:Str}
theorem xk_kind:builtinKind "BaseException.__getattribute__"=some .slot:=by decide +kernel
theorem xk_split:splitId "BaseException.__getattribute__"=some ("BaseException","__getattribute__"):=by decide +kernel
theorem ga_ne:(onTheHeap (Value.ref C) && Value.builtin "BaseException.__getattribute__" == Value.builtin "object.__getattribute__")=false:=by
 rw [show (Value.builtin "BaseException.__getattribute__" == Value.builtin "object.__getattribute__")=false by decide +kernel]; rfl
theorem xget_by {tk:Tok} {fill expr:Bool} {Q:Value→Shared→Prop} (X:K.In s.heap) (I:InstAt s.heap x ox C od) (c:XCls K C)
  (h:wpAny (model prog w) A.in1 (Builtin.«object.__getattribute__» ⟨[.ref x,.str name tk],[]⟩) (fun fin s'=>match fin with | .done (.ret v)=>wpAny (model prog w) A (handedOut v) Q E s' | _=>False) (fun _ _=>False) s) :
  wpAny (model prog w) A (getAttrBy (.ref x) (.str name tk) fill expr) Q E s:=by
 have FB:=PySem.F.attrBase_ValueError
 obtain ⟨hh,g,d,t,os⟩:=s
 have L0:=I.type (M:=model prog w)
 have L1:=looks_findIn (M:=model prog w) X c.ga
 have L2:=looks_findIn (M:=model prog w) X c.gh
 have L3:Looks (model prog w) hh (isInstance (.ref x) (.type "BaseException")) true:=L0.andThen (looks_mroIn X c.be)
 unfold getAttrBy
 refine wpAny_holding (wpAny_bind (L0.at (wpAny_bind (L1.at ?_))))
 show wpAny _ _ (if (onTheHeap (Value.ref C) && Value.builtin "BaseException.__getattribute__" == Value.builtin "object.__getattribute__")=true then getAttrEveryday (.ref x) (.str name tk) fill else getAttrByItsOwn (.ref x) (.str name tk) (.ref C) (.builtin "BaseException.__getattribute__") fill expr) _ _ _
 rw [ga_ne,if_neg Bool.false_ne_true]
 unfold getAttrByItsOwn
 refine wpAny_bind (m:=hookBefore (.ref C)) (show wpAny _ _ (typeLookup (.ref C) "__getattr__") _ _ _ from L2.at ?_)
 have e:callGetattribute (.ref x) (.str name tk) (.builtin "BaseException.__getattribute__") expr=boundAndCalled (.builtin "BaseException.__getattribute__") (.ref x) (.str name tk):=by
  unfold callGetattribute
  rw [if_neg (by cases expr <;> exact Bool.false_ne_true)]
 rw [e]
 refine wpAny_bind (wpAny_attempt (wpAny_holding ?_))
 unfold boundAndCalled
 rw [FB.ga.bind]
 refine wpAny_bind (wpAny_pure (wpAny_call ?_))
 refine codeAny_call_builtin FB.ga.plain PySem.F.entry_bexc_ga ?_
 refine @check_slot (model prog w) _ _ ⟨hh,g,d,t,os⟩ "BaseException.__getattribute__" "BaseException" "__getattribute__" (.ref x) [.str name tk] [] _ xk_kind xk_split L3 (PySem.F.args_bexc_ga (.ref x) (.str name tk)) ?_
 refine wpAny_mono h (fun fin s' z=>?_) fun _ _ z=>z.elim
 rcases fin with (_ | _ | _ | _) | _ <;> first | exact z | exact z.elim
theorem xga_value {tk:Tok} {v:Value} {P:Fin→Shared→Prop} (X:K.In s.heap) (I:InstAt s.heap x ox C od) (hf:findObj K C od name=some (.value v)) (h:P (.done (.ret v)) s) :
  wpAny (model prog w) A (Builtin.«object.__getattribute__» ⟨[.ref x,.str name tk],[]⟩) P E s:=by
 obtain ⟨hh,g,d,t,os⟩:=s
 have L0:=I.type (M:=model prog w)
 have L1:=looks_find (M:=model prog w) X I hf
 unfold Builtin.«object.__getattribute__»
 repeat lk
 exact h
theorem xga_bind {tk:Tok} {g a:Value} {P:Fin→Shared→Prop} (X:K.In s.heap) (I:InstAt s.heap x ox C od) (hf:findObj K C od name=some (.bind g a)) (h:wpAny (model prog w) A (call g [a,.ref x,.ref C]) (fun v s'=>P (.done (.ret v)) s') E s) :
  wpAny (model prog w) A (Builtin.«object.__getattribute__» ⟨[.ref x,.str name tk],[]⟩) P E s:=by
 obtain ⟨hh,gg,d,t,os⟩:=s
 have L0:=I.type (M:=model prog w)
 have L1:=looks_find (M:=model prog w) X I hf
 unfold Builtin.«object.__getattribute__»
 refine wpAny_bind (wpAny_pure (wpAny_bind (wpAny_pure (wpAny_bind (L0.at (wpAny_bind (L1.at ?_)))))))
 show wpAny _ _ (Builtin.ObjectAttr.bindTo g a (.ref x) (.ref C)) _ _ _
 unfold Builtin.ObjectAttr.bindTo
 exact wpAny_bind (wpAny_holding (wpAny_mono h (fun v s' z=>wpAny_pure z) fun _ _ z=>z))
theorem xfind_class (c:XCls K C):findObj K C od "__class__"=some (.bind (.builtin "getset_descriptor.__get__") (.builtin "object.__class__")):=by
 obtain ⟨cd,hc,_⟩:=any_some c.hd
 unfold findObj
 rw [hc,Option.bind_some,c.cl,Option.bind_some]
 simp [c.cg,c.ct]
theorem xget_class {Q:Option Value→Shared→Prop} (c:XCls K C) (X:K.In s.heap) (I:InstAt s.heap x ox C od) (h:Q (some (.ref C)) { s with toks:=s.toks + 1 }):wpAny (model prog w) A (getAttr? (.ref x) "__class__") Q E s:=by
 unfold getAttr? getAttrBy?
 refine wpAny_bind (wpAny_mkText (wpAny_bind (wpAny_attempt (xget_by (s:={ s with toks:=s.toks + 1 }) X I c (xga_bind (s:={ s with toks:=s.toks + 1 }) X I (xfind_class c) (wpAny_call (class_get (s:={ s with toks:=s.toks + 1 }) (ox:=ox) (od:=od) X I c.ob ?_)))))))
 exact handed_on rfl (wpAny_pure h)
theorem kitx_exc (c:XCls K C):KitX K (.ref x) (.ref C) (fun h=>InstAt h x ox C od) where
 ty:=fun _ _ _ I=>I.type
 it:=fun _ _ X _=>by
  obtain ⟨cd,hc,_⟩:=any_some c.hd
  unfold clsIn at hc
  split at hc
  ·next ho =>
   intro A' Q' E' s' k q
   unfold isType loadHead
   exact wpAny_bind (wpAny_loadPart (k _ _ (X _ _ ho)) (wpAny_pure q))
  ·cases hc
 ne:=fun h tp dd its n sl X htp=>by
  obtain ⟨cd,hc,_⟩:=any_some c.hd
  refine Bool.eq_false_iff.mpr fun q=>?_
  obtain rfl:C=tp:=Value.ref.inj (beq_iff_eq.mp q)
  unfold clsIn at hc
  split at hc
  ·next ho =>
   cases (X _ _ ho).symm.trans htp
  ·cases hc
 ca:=fun X I k=>xget_class c X I k
end
theorem vals_refs:∀ {cs:List Addr} {its:List Value},Vals (cs.map V.ref) its→its=cs.map Value.ref:=by
 intro cs
 induction cs with
 | nil=>intro its r; cases r; rfl
 | cons c cs ih =>
  intro its r
  cases r with
  | cons r1 r2=>rw [ih r2,List.map_cons]; exact congrArg (· :: cs.map Value.ref) r1
noncomputable def ExcH (X:Cx) (H:Hp) (a:Addr) (ob:Obj):Prop:=(a,ob)∈X.pn∨H a=some (ExO a ob)
noncomputable def OdFs:Option Obj→Option (List (Str×V))→Prop
 | none,none=>True
 | some o,some l=>∃ mA:Str→Option Value,(∀ name,PySem.W.lookIn name o=some (mA name))∧∀ f,RelO (l.lookup f) (mA f)
 | _,_=>False
structure IsX (X:Cx) (H:Hp) (a:Addr) (C:Addr) (fs:Option (List (Str×V))):Prop where
 at_:∃ ob,ExcH X H a ob∧ob.cls=.ref C∧PySem.W.notCls ob=true∧match ob.dict,fs with | none,none=>True | some dx,some l=>H dx=some (.xd l) | _,_=>False
 cl:XCls X.K C
section
variable {X:Cx} {pins:List (Addr×Obj)} {σ:St} {H:Hp} {s:Shared} {a C:Addr} {fs:Option (List (Str×V))}
theorem Inv.exh {ob:Obj} (I:Inv X pins σ H s) (h:ExcH X H a ob):s.heap.get? a=some ob:=by
 rcases h with h | h
 ·exact (I.pin _ (List.mem_append_left _ h)).1
 ·exact I.exo h
theorem Inv.isx (I:Inv X pins σ H s) (h:IsX X H a C fs):Ex_2_2 (fun ob od=>PySem.W.InstAt s.heap a ob C od) (fun ob od=>OdFs od fs):=by
 obtain ⟨ob,hx,hc,hn,hd⟩:=h.at_
 cases e:ob.dict with
 | none =>
  rw [e] at hd
  cases fs with
  | some l=>exact hd.elim
  | none=>exact ⟨ob,none,⟨I.exh hx,hc,hn,by rw [e]; trivial⟩,trivial⟩
 | some dx =>
  rw [e] at hd
  cases fs with
  | none=>exact hd.elim
  | some l =>
   obtain ⟨mA,n1,r⟩:=I.hok dx _ hd
   obtain ⟨o,ho,hl⟩:=lookIn_ns n1
   exact ⟨ob,some o,⟨I.exh hx,hc,hn,by rw [e]; exact ho⟩,mA,hl,r⟩
theorem call_isX:CallR X (.builtin "isinstance") (fun xs H Q=>Ex_6_5 (fun a C fs y c b=>xs=[.ref a,y]) (fun a C fs y c b=>IsX X H a C fs) (fun a C fs y c b=>(∀ u,RelV y u→u=c)) (fun a C fs y c b=>PySem.W.kitOne X.K (.ref C) c=some b) (fun a C fs y c b=>Q (.bl b) H)):=by
 intro pins s σ H xs us Q I r h
 obtain ⟨a,C,fs,y,c,b,rfl,hx,ry,e,q⟩:=h
 obtain ⟨u,v,rfl,ru,rv⟩:=vals2 r
 obtain rfl:u=Value.ref a:=ru
 obtain rfl:v=c:=ry v rv
 obtain ⟨ob,od,J,_⟩:=I.isx hx
 exact PySem.W.kia_one (kitx_exc hx.cl) I.kIn J e (fun z=>nomatch z) fun tk=>⟨.bl b,H,I.tok tk,rfl,q⟩
theorem call_isXT:CallR X (.builtin "isinstance") (fun xs H Q=>Ex_6_5 (fun (a C:Addr) (fs:Option (List (Str×V))) (tp:Addr) (cs:List Addr) (b:Bool)=>xs=[.ref a,.ref tp]) (fun a C fs tp cs b=>IsX X H a C fs) (fun a C fs tp cs b=>SqT X.K H tp (cs.map V.ref)) (fun a C fs tp cs b=>PySem.W.kitAny X.K (.ref C) (cs.map Value.ref)=some b) (fun a C fs tp cs b=>Q (.bl b) H)):=by
 intro pins s σ H xs us Q I r h
 obtain ⟨a,C,fs,tp,cs,b,rfl,hx,ht,e,q⟩:=h
 obtain ⟨u,v,rfl,ru,rv⟩:=vals2 r
 obtain rfl:u=Value.ref a:=ru
 obtain rfl:v=Value.ref tp:=rv
 obtain ⟨ob,od,J,_⟩:=I.isx hx
 obtain ⟨its,rt,⟨o,ho,hc,n,hd⟩,_⟩:=I.tuple ht
 have ei:its=cs.map Value.ref:=vals_refs rt
 subst ei
 obtain ⟨oc,odi,oda,osl⟩:=o
 dsimp only at hc hd
 subst hc hd
 exact PySem.W.kia_tup (kitx_exc hx.cl) I.kIn J ho e (fun z=>nomatch z) fun tk=>⟨.bl b,H,I.tok tk,rfl,q⟩
noncomputable def tXGet (X:Cx) (te:TE) (f:Str):TE:=fun σ H Q=>te σ H fun x H1=>Ex_4_5 (fun a C fs v=>x=.ref a) (fun a C fs v=>IsX X H1 a C (some fs)) (fun a C fs v=>NoAttr X.K C f) (fun a C fs v=>fs.lookup f=some v) (fun a C fs v=>Q v H1)
theorem pe_xget {e:Expr} {f:Str} {pos:Pos} {te:TE} (he:PE X e te) (hb:attributeBase e f X.env (eval e X.env)=eval e X.env):PE X (.Attribute e f pos) (tXGet X te f):=by
 intro pins s σ H Q I h
 refine attr_of hb (thnE (he pins s σ H _ I h) fun u s1 x H1 I1 rx q=>?_)
 obtain ⟨a,C,fs,v,rfl,hx,hn,hl,q⟩:=q
 obtain rfl:u=Value.ref a:=rx
 obtain ⟨ob,od,J,m⟩:=I1.isx hx
 cases od with
 | none=>exact (show False from m).elim
 | some o =>
  obtain ⟨mA,ml,mr⟩:=m
  obtain ⟨u,hu,ru⟩:=RelO.some_of (v:=v) (o:=mA f) (by rw [← hl]; exact mr f)
  unfold getAttr
  refine wpAny_bind (wpAny_mkText (xget_by (s:={ s1 with toks:=s1.toks + 1 }) I1.kIn J hx.cl (xga_value (s:={ s1 with toks:=s1.toks + 1 }) I1.kIn J (PySem.W.findObj_own hx.cl.hd hn rfl (by rw [ml,hu])) ?_)))
  exact PySem.W.handed_on (handed_of ru) ⟨v,H1,I1.tok _,ru,q⟩
end
end L2
set_option Elab.async false
set_option linter.all false
set_option maxRecDepth 100000
set_option maxHeartbeats 1000000
namespace L2
open PySem PySem.Spec PyProof.Rows
theorem tail_refuse {h:Heap} {bmB bm:List Value} {self:Value} {what:Str} (T:OwnTail h bmB bm) (e:refuseLoop self what bmB=pure ()):refuseLoop self what bm=pure ():=by
 induction T with
 | base=>exact e
 | own _ _ _ _ ih=>rw [refuseLoop_ref]; exact ih
section
variable {P:Program} {w:World} {H H':Hp} {h h':Heap} {a:Addr} {o:HO} {fs ex:List Addr}
theorem Un.laidN (k:∀ b u,h.get? b=some u→h'.get? b=some u) (hp:h.get? a=none) (hn:H a=none):Un fs ex H (upd H a o) h h' where
 keep:=fun b u q _ _ _=>k b u q
 slot:=fun b u q _ _ _=>⟨u.slots,k b u q⟩
 free:=fun b u q n _=>by rw [upd_ne (fun z=>by rw [z,hp] at q; cases q)]; exact n
 there:=fun b u q _=>⟨u,k b u q⟩
 tups:=fun b xs q=>by rw [upd_ne (ne_of_none q hn)]; exact q
 frzs:=fun b u xs q=>by rw [upd_ne (ne_of_none q hn)]; exact q
 tbls:=fun b ps q=>⟨#[],by rw [upd_ne (ne_of_none q hn),q]; simp⟩
theorem HOk.laidN (x:HOk P w H h) (k:∀ b u,h.get? b=some u→h'.get? b=some u) (hp:h.get? a=none) (new:ObjOk P w (upd H a o) h' a o):HOk P w (upd H a o) h':=fun b u e=>by
 have hn:=x.none_of hp
 by_cases hb:b=a
 ·subst hb; rw [upd_same] at e; cases e; exact new
 ·rw [upd_ne hb] at e
  exact (x b u e).stay (fun c v _ q=>k c v q) (fun c q=>by rw [upd_ne (ne_of_none q hn)]; exact q) fun c xs q=>by rw [upd_ne (ne_of_none q hn)]; exact q
end
section
variable {X:Cx} {pins:List (Addr×Obj)} {σ:St} {H:Hp} {s:Shared} {h':Heap} {a C:Addr} {o:HO} {ob ob':Obj}
theorem Inv.laidN {t':Nat} (I:Inv X pins σ H s) (k:∀ b u,s.heap.get? b=some u→h'.get? b=some u) (hp:s.heap.get? a=none) (new:ObjOk X.prog X.w (upd H a o) h' a o) :
  Inv X pins σ (upd H a o) { s with heap:=h',toks:=t' }:=I.un (Un.laidN k hp (I.hok.none_of hp)) (I.hok.laidN k hp new)
theorem exo_ok {P:Program} {w:World} {H:Hp} {h:Heap} (e:h.get? a=some ob):ObjOk P w H h a (ExO a ob):=⟨e,⟨ob,e⟩,fun _ _ p k=>k _ p⟩
theorem xset {Q:Unit→Shared→Prop} {f:Str} {y:V} {u:Value} {bmB:List Value} {newId:String} {ini:Option Value} {t:Addr} {A:Around} {E:Value→Shared→Prop} (I:Inv X pins σ H s) (e:H a=some (ExO a (excObj (.ref C) none t)))
  (q:excAny X.K C bmB newId ini=true) (ps:∀ self:Value,refuseLoop self "__setattr__" bmB=pure ()) (c:XCls X.K C) (n:NoAttr X.K C f) (ry:RelV y u)
  (h:∀ dx s',H dx=none→dx≠a→Inv X pins σ (upd (upd H dx (.xd [(f,y)])) a (ExO a (excObj (.ref C) (some dx) t))) s'→Q () s'):wpAny (model X.prog X.w) A (setAttr (.ref a) f u) Q E s:=by
 have SF:=PySem.F.store_object
 have hx:=I.exo e
 have J:PySem.W.InstAt s.heap a (excObj (.ref C) none t) C none:=⟨hx,rfl,rfl,trivial⟩
 obtain ⟨bm,N,nm,qn,bs,sn,sub,ab,col,dd,k0,k1,k2,k3,k5,mN,hC,hN,hi,T⟩:=exc_any I.kIn q
 obtain ⟨hh,g,d,tk,os⟩:=s
 have sb:PySem.W.Looks (model X.prog X.w) hh (isInstance (.ref a) (.type "object")) true:=J.type.andThen (PySem.W.looks_mroIn I.kIn c.ob)
 have hm:PySem.W.Looks (model X.prog X.w) hh (mroOf (.ref C)) (.ref C :: bm):=fun A Q E s k z=>by
  obtain ⟨h1,g1,d1,t1,o1⟩:=s
  exact wpAny_mroOf_exc (k _ _ hC) z
 refine PySem.W.set_plain I.kIn J c.sa (codeAny_call_builtin SF.slot.plain SF.entry ?_)
 refine @PySem.W.check_slot (model X.prog X.w) _ _ ⟨hh,g,d,tk + 1,os⟩ "object.__setattr__" "object" "__setattr__" (.ref a) [.str f tk,u] [] _ SF.kind SF.split sb (SF.args (.ref a) (.str f tk) u) ?_
 rw [PySem.W.osa_eq,refuse_eq]
 have LT:PySem.W.Looks (model X.prog X.w) hh (typeOf (.ref a)) (.ref C):=J.type
 have KI:X.K.In hh:=I.kIn
 refine wpAny_bind (wpAny_bind (LT.at (wpAny_bind (hm.at ?_))))
 rw [refuseLoop_ref,tail_refuse T (ps _)]
 refine wpAny_pure (wpAny_bind (LT.at (wpAny_bind ((PySem.W.looks_findIn KI n).at (wpAny_bind (wpAny_pure ?_))))))
 obtain ⟨cd,hc,hd⟩:=PySem.W.any_some c.hd
 show wpAny _ _ (Builtin.ObjectAttr.storeInOwnDict (.ref a) (.ref C) (.str f tk) f u false) _ _ _
 unfold Builtin.ObjectAttr.storeInOwnDict
 refine wpAny_bind (wpAny_pure (wpAny_bind ?_))
 show wpAny _ _ (instanceDict a true) _ _ _
 unfold instanceDict
 refine wpAny_bind (wpAny_loadPart hx (wpAny_bind ((PySem.W.looks_clsIn KI hc).at ?_)))
 rw [hd]
 have x1:(hh.push { cls:=.type "dict",data:=.dict #[] }).get? a=some (excObj (.ref C) none t):=Heap.get?_push_of_some _ hx
 have ne:a≠hh.objs.size:=Nat.ne_of_lt (Heap.lt_size hx)
 refine wpAny_bind (wpAny_alloc' (wpAny_bind (wpAny_update' x1 (wpAny_pure ?_))))
 have gd:((hh.push { cls:=.type "dict",data:=.dict #[] }).update a fun o=>{ o with dict:=some hh.objs.size }).get? hh.objs.size=some { cls:=.type "dict",data:=.dict #[] }:=(Heap.get?_update_ne _ _ _ _ ne.symm).trans (Heap.get?_push_at rfl rfl)
 have nd:((hh.push { cls:=.type "dict",data:=.dict #[] }).update a fun o=>{ o with dict:=some hh.objs.size }).Ns hh.objs.size (fun _=>none):=⟨_,#[],_,gd,rfl,fun e he=>absurd he (by simp),fun _=>rfl⟩
 show wpAny _ _ (Builtin.ObjectAttr.storeInDict hh.objs.size (.str f tk) f u) _ _ _
 unfold Builtin.ObjectAttr.storeInDict Builtin.ObjectAttr.newKeyGuard
 refine wpAny_bind (wpAny_pure (wpAny_bind (wpAny_nsSet1 (Heap.Ns1.of_empty nd) fun h2 hn2 hs2=>?_)))
 obtain ⟨oD,esD,epD,hoD,hdD,hcD⟩:=hn2.count (Within.cons f u Within.nil)
 refine wpAny_bind (wpAny_lookBehind hoD (by rw [hdD]; exact pastItsLine_dict (Nat.le_trans hcD (by rw [List.length_cons,List.length_nil,sizeLine_eq]; lia))) (wpAny_pure ?_))
 have x2:h2.get? a=some (excObj (.ref C) (some hh.objs.size) t):=(hs2.2 a ne).trans (Heap.get?_update_self _ x1 rfl)
 have kp:∀ b o,b≠a→hh.get? b=some o→h2.get? b=some o:=fun b o q z=>(hs2.2 b (Nat.ne_of_lt (Heap.lt_size z))).trans ((Heap.get?_update_ne _ _ _ _ q).trans (Heap.get?_push_of_some _ z))
 have nH:H hh.objs.size=none:=I.hok.fresh (Nat.le_refl _)
 refine h hh.objs.size _ nH ne.symm ?_
 have mu:Mut (H a):=by rw [e]; exact True.intro
 have na:∀ b u',H b=some u'→¬ Mut (some u')→b≠a:=fun b u' z nm y=>by rw [y] at z; rw [z] at mu; exact nm mu
 have HH:∀ b,b≠a→b≠hh.objs.size→upd (upd H hh.objs.size (.xd [(f,y)])) a (ExO a (excObj (.ref C) (some hh.objs.size) t)) b=H b:=fun b z1 z2=>by rw [upd_ne z1,upd_ne z2]
 refine I.un (h':=h2) (t':=_) ⟨fun b o z n _ _=>?_,fun b o z n _ _=>?_,fun b o z n _=>?_,fun b o z _=>?_,fun b xs z=>?_,fun b o xs z=>?_,fun b ps z=>?_⟩ fun b o z=>?_
 ·exact kp b o (fun y=>by rw [y,e] at n; cases n) z
 ·exact ⟨o.slots,kp b o (fun y=>by rw [y,e] at n; cases n) z⟩
 ·rw [HH b (fun y=>by rw [y,e] at n; cases n) (Nat.ne_of_lt (Heap.lt_size z))]; exact n
 ·by_cases y:b=a
  ·exact ⟨_,by rw [y]; exact x2⟩
  ·exact ⟨o,kp b o y z⟩
 ·rw [HH b (na b _ z fun y=>y) (ne_of_none z nH)]; exact z
 ·rw [HH b (na b _ z fun y=>y) (ne_of_none z nH)]; exact z
 ·exact ⟨#[],by rw [HH b (na b _ z fun y=>y) (ne_of_none z nH),z]; simp⟩
 ·by_cases ya:b=a
  ·subst ya
   rw [upd_same] at z; cases z
   exact exo_ok x2
  ·rw [upd_ne ya] at z
   by_cases yd:b=hh.objs.size
   ·subst yd
    rw [upd_same] at z; cases z
    refine ⟨_,hn2,fun f'=>?_⟩
    show RelO (List.lookup f' [(f,y)]) (if f'=f then some u else none)
    by_cases q:f'=f
    ·rw [if_pos q,q]
     have:List.lookup f [(f,y)]=some y:=by simp [List.lookup]
     rw [this]; exact ry
    ·have hb:(f' == f)=false:=beq_eq_false_iff_ne.mpr q
     rw [if_neg q]
     show RelO (List.lookup f' [(f,y)]) none
     simp only [List.lookup,hb]
     exact True.intro
   ·rw [upd_ne yd] at z
    refine (I.hok b o z).stay (fun c' v hc' r=>kp c' v ?_ r) (fun c' r=>?_) fun c' xs r=>?_
    ·rcases hc' with rfl | hc'
     ·exact ya
     ·exact na c' _ hc' fun y=>y
    ·rw [HH c' (na c' _ r fun y=>y) (ne_of_none r nH)]; exact r
    ·rw [HH c' (na c' _ r fun y=>y) (ne_of_none r nH)]; exact r
noncomputable def sXSet (K:PySem.W.Frag) (ta tv:TE) (f:Str):TS:=fun D σ H=>tv σ H fun y H1=>ta σ H1 fun x H2=>Ex_3_6 (fun a C t=>x=.ref a) (fun a C t=>H2 a=some (ExO a (excObj (.ref C) none t))) (fun a C t=>(∃ ini,excAny K C veB "ValueError.__new__" ini=true)) (fun a C t=>XCls K C) (fun a C t=>NoAttr K C f) (fun a C t=>∀ dx,H2 dx=none→dx≠a→D.nx σ (upd (upd H2 dx (.xd [(f,y)])) a (ExO a (excObj (.ref C) (some dx) t))))
theorem ps_xset {o value:Expr} {f:Str} {pos pos':Pos} {ta tv:TE} (ha:PE X o ta) (hv:PE X value tv) (hs:swapsWith value (some (.Attribute o f pos')) pos.line X.env=pure false):PS X (.Assign [.Attribute o f pos'] value pos) (sXSet X.K ta tv f):=by
 intro pins s σ H D I h
 refine plainObj_wpAny_Assign_Attribute (thnE (hv pins s σ H _ I h) fun u s1 y H1 I1 ry q=>thnE (ha pins s1 σ H1 _ I1 q) fun ov s2 x H2 I2 rx q2=>?_) hs
 obtain ⟨a,C,t,rfl,ea,⟨ini,ex⟩,c,n,q2⟩:=q2
 obtain rfl:ov=Value.ref a:=rx
 exact xset I2 ea ex PySem.F.store_ValueError.passes c n ry fun dx s3 hd ne I3=>⟨σ,_,I3,q2 dx hd ne⟩
end
noncomputable def HasE (P:Program) (w:World) (K:PySem.W.Frag) (mg:Str→Option Value) (base:Heap) (k:Nat) (x:Str) (ps:List Str) (sp:Sp):Prop :=
 Ex_2_6 (fun (f:Addr) (fd:FuncData)=>FnOk P w K mg base CX0 k f fd ps sp) (fun f fd=>mg x=some (.ref (cA K x))) (fun f fd=>excAny K (cA K x) veB "ValueError.__new__" (some (.ref f))=true) (fun f fd=>PySem.W.isFn K (.ref f)=true) (fun f fd=>PySem.W.keepIn K (.ref (cA K x))=true) (fun f fd=>Binds K fd ps [])
section
variable {X:Cx} {k:Nat} {x:Str} {ps:List Str} {sp:Sp} {p pos:Pos} {e:Expr} {es:List Expr} {t:TA} {C:Addr}
noncomputable def tMkx (C:Addr) (sp:Sp) (t:TA):TE:=fun σ H Q=>t σ H fun vs H1=>vs.length≤sizeLine∧∀ a tp,H1 a=none→sp (.ref a :: vs) (upd H1 a (ExO a (excObj (.ref C) none tp))) (fun v H2=>v=.non∧Q (.ref a) H2) E0
theorem pe_mkx (h:HasE X.prog X.w X.K X.mg X.base k x ps sp) (hr:Room (k + 1) X.A) (ha:PA X (e :: es) t) (hg:Gl X x:=by rfl) (hdb:(x == ("__debug__":Str))=false:=by decide)
  (he:starEach (e :: es) X.env=(false,eval e X.env) :: starEach es X.env:=by rfl) (hpl:(backTo pos (starEach es X.env)).any (·.1)=false:=by rfl):PE X (.Call (.Name x p) (e :: es) [] pos) (tMkx (cA X.K x) sp t):=by
 intro pins s σ H Q I h0
 obtain ⟨f,fd,F,hm,hex,hf,hk,hb⟩:=h
 generalize cA X.K x=C at *
 refine wpAny_Call_Name_kw (ld_glob I hg hm ?_ hdb)
 refine PySem.W.callWith_K (h₀:=X.base) I.ok.mod.kin hk (thnA (ha pos pins s σ H _ I h0) fun us s1 vs H1 I1 r q=>⟨I1.kIn,?_⟩) he hpl
 obtain ⟨hz,q⟩:=q
 obtain ⟨bm,N,nm,qn,bs,sn,sub,ab,col,dd,k0,k1,k2,k3,k5,mN,hC,hN,hi,T⟩:=exc_any I1.kIn hex
 obtain ⟨of,hof,hcf⟩:=Option.map_eq_some_iff.mp (show PySem.W.typeIn X.K (.ref f)=some (.type "function") from beq_iff_eq.mp hf)
 show wpAny _ _ (call (.ref C) us) _ _ _
 refine call_init PySem.F.excBase_ValueError (by decide) PySem.F.excBase_ValueError T hC hN hi (I1.kIn _ _ hof) hcf (by rw [← r.length]; exact hz) fun h' a mk=>?_
 obtain ⟨tp,hx,_,_⟩:=mk.there
 have I2:Inv X pins σ (upd H1 a (ExO a (excObj (.ref C) none tp))) { s1 with heap:=h' }:=I1.laidN (t':=s1.toks) mk.keeps mk.new (exo_ok hx)
 have hq:=q a tp (I1.hok.none_of mk.new)
 have r2:Vals (V.ref a :: vs) (Value.ref a :: us):=.cons rfl r
 have hl:(Value.ref a :: us).length=ps.length:=by rw [← r2.length]; exact F.len _ _ _ _ hq
 have bn:=hb { s1 with heap:=h' } (Value.ref a :: us) I2.kIn (by rw [List.append_nil]; exact hl)
 rw [List.append_nil] at bn
 refine wpAny_call (codeAny_mono (F.run _ X.stack _ _ ⟨Value.ref a :: us,[]⟩ (Value.ref a :: us) _ _ _ (hr.make C us []) (I2.env0.make C us []) bn r2 hq) fun rr s' hq'=>?_)
 cases rr with
 | error e2=>exact False.elim hq'
 | ok fl =>
  cases fl with
  | ret u =>
   obtain ⟨v,H',I3,rv,ev,q3⟩:=I2.after hq'
   subst ev
   exact ⟨rv,⟨V.ref a,H',I3,rfl,q3⟩⟩
  | next=>exact False.elim hq'
  | brk=>exact False.elim hq'
  | cont=>exact False.elim hq'
noncomputable def tMkx0 (C:Addr) (t:TA):TE:=fun σ H Q=>t σ H fun vs H1=>vs.length≤sizeLine∧∀ a tp,H1 a=none→Q (.ref a) (upd H1 a (ExO a (excObj (.ref C) none tp)))
theorem pe_mkx0 (hm:X.mg x=some (.ref C)) (hex:excAny X.K C veB "ValueError.__new__" none=true) (hk:PySem.W.keepIn X.K (.ref C)=true) (ha:PA X (e :: es) t) (hg:Gl X x:=by rfl) (hdb:(x == ("__debug__":Str))=false:=by decide)
  (he:starEach (e :: es) X.env=(false,eval e X.env) :: starEach es X.env:=by rfl) (hpl:(backTo pos (starEach es X.env)).any (·.1)=false:=by rfl):PE X (.Call (.Name x p) (e :: es) [] pos) (tMkx0 C t):=by
 intro pins s σ H Q I h0
 refine wpAny_Call_Name_kw (ld_glob I hg hm ?_ hdb)
 refine PySem.W.callWith_K (h₀:=X.base) I.ok.mod.kin hk (thnA (ha pos pins s σ H _ I h0) fun us s1 vs H1 I1 r q=>⟨I1.kIn,?_⟩) he hpl
 obtain ⟨hz,q⟩:=q
 obtain ⟨bm,N,nm,qn,bs,sn,sub,ab,col,dd,k0,k1,k2,k3,k5,mN,hC,hN,hi,T⟩:=exc_any I1.kIn hex
 show wpAny _ _ (call (.ref C) us) _ _ _
 refine wpAny_call_exc_subU PySem.F.excBase_ValueError (by decide) PySem.F.excBase_ValueError T hC hN hi (fun h' a mk=>?_) (by rw [← r.length]; exact hz)
 obtain ⟨tp,hx,_,_⟩:=mk.there
 exact ⟨V.ref a,_,I1.laidN (t':=s1.toks) mk.keeps mk.new (exo_ok hx),rfl,q a tp (I1.hok.none_of mk.new)⟩
end
section
variable {M:Model} {A:Around} {E:Value→Shared→Prop} {env:Env} {bmB:List Value} {newId:String}
theorem raiseD {s:Shared} {x:Sem Value} {Q:Flow→Shared→Prop} (hbase:bmB.contains (.type "BaseException")=true) (hh:A.handled=none)
  (h:wpAny M A x (fun v s₁=>Ex_4_4 (fun e C t dx=>v=.ref e) (fun e C t dx=>s₁.heap.get? e=some (excObj (.ref C) dx t)) (fun e C t dx=>E (.ref e) s₁) (fun e C t dx=>Ex_15_2 (fun bm N nm qn bs sn sub ab col dd k0 k1 k2 k3 k5=>s₁.heap.get? C=some (excClassObj nm qn C N bs bm true sn sub ab col dd k0 k1 k2 k3 k5 newId)) (fun bm N nm qn bs sn sub ab col dd k0 k1 k2 k3 k5=>OwnTail s₁.heap bmB bm))) E s):wpAny M A (raiseStmt env (some x) none) Q E s:=by
 unfold raiseStmt
 refine wpAny_bind (wpAny_mono h (fun v s1 h1=>?_) fun _ _ z=>z)
 obtain ⟨e,C,t,dx,rfl,he,hE,bm,N,nm,qn,bs,sn,sub,ab,col,dd,k0,k1,k2,k3,k5,hC,T⟩:=h1
 have cB:(Value.ref C :: bm).contains (.type "BaseException")=true:=by rw [List.contains_cons,T.hasType hbase,Bool.or_true]
 obtain ⟨hp,g,d,tk,os⟩:=s1
 unfold excObj at he
 repeat (first | with_reducible refine wpAny_loadPart_at he ?_ | with_reducible refine wpAny_loadPart_at hC ?_ | (with_reducible refine wpAny_isSubtype_exc hC ?_; rw [cB]) | wp_step)
 exact wpAny_raiseNew_none hh hE
end
section
variable {X:Cx} {E:XK} {e:Expr} {te:TE} {pos:Pos}
noncomputable def LeavesD (X:Cx) (E:XK):Prop:=∀ (pins:List (Addr×Obj)) (σ:St) (H:Hp) (s:Shared) (a:Addr) (c:Value) (dx:Option Addr) (t:Addr),Inv X pins σ H s→H a=some (ExO a (excObj c dx t))→X.H₀ a=none→E c dx (del H a)→X.xe (.ref a) s
theorem leaves_cxd {P:Program} {w:World} {K:PySem.W.Frag} {mg:Str→Option Value} {base:Heap} {N:List Str} {qual:Str} {scope:Scope} {f:Addr} {cd:Value} {A:Around} {outer:List Env} {s0:Shared} {H0:Hp} {E:XK} :
  LeavesD (cxOf (CXD P w) P w K mg base N qual scope f cd A outer s0 H0 E) E:=by
 intro pins σ H s a c dx t I ha h0 q
 have I':=I.untrack ha h0
 refine leaveD (B:=PySem.W.hideAll s.heap ([a] ++ frs (cxOf (CXD P w) P w K mg base N qual scope f cd A outer s0 H0 E).stack)) (a0:=.ref t) I'.ok.frames (frames_hid I'.stack) rfl (I.exo ha) (fun b o z=>PySem.W.of_hideAll _ z) (PySem.W.hideAll_none _ (by simp)) rfl rfl rfl fun h2 f2 u2=>?_
 refine left_cxd I' rfl rfl rfl (fun b hb=>?_) (by simp) f2 u2 q
 obtain rfl:=List.mem_singleton.mp hb
 exact ⟨del_same,I.exo_new ha h0 rfl⟩
noncomputable def tRaiseE (X:Cx) (te:TE) (E:XK):TS:=fun _ σ H=>te σ H fun v H1=>Ex_4_5 (fun a C dx t=>v=.ref a) (fun a C dx t=>H1 a=some (ExO a (excObj (.ref C) dx t))) (fun a C dx t=>X.H₀ a=none) (fun a C dx t=>(∃ ini,excAny X.K C veB "ValueError.__new__" ini=true)) (fun a C dx t=>E (.ref C) dx (del H1 a))
theorem ps_raiseE (hl:LeavesD X E) (hcalm:X.calm=true) (he:PE X e te) (ho:evalOpt (some e) X.env=some (eval e X.env):=by rfl):PS X (.Raise (some e) none pos) (tRaiseE X te E):=by
 intro pins s σ H D I h
 rw [arm_exec_Raise,ho]
 refine wpAny_bind (wpAny_standAt (raiseD (bmB:=veB) (newId:="ValueError.__new__") (by decide) (I.ok.hd hcalm) (wpAny_bind (thnE (he pins s σ H _ I h) fun u s1 v H1 I1 rv q=>wpAny_bind (wpAny_standAt (wpAny_pure ?_))))))
 obtain ⟨a,C,dx,t,rfl,ea,h0,⟨ini,ex⟩,q⟩:=q
 obtain rfl:u=Value.ref a:=rv
 obtain ⟨bm,N,nm,qn,bs,sn,sub,ab,col,dd,k0,k1,k2,k3,k5,mN,hC,hN,hi,T⟩:=exc_any I1.kIn ex
 exact ⟨a,C,t,dx,rfl,I1.exo ea,hl pins σ H1 s1 a _ dx t I1 ea h0 q,bm,N,nm,qn,bs,sn,sub,ab,col,dd,k0,k1,k2,k3,k5,hC,T⟩
end
end L2
set_option Elab.async false
set_option linter.all false
set_option maxRecDepth 100000
set_option maxHeartbeats 1000000
namespace L2
open PySem PySem.Spec PyProof.Rows
theorem Fun.okd {P:Program} {w:World} {K:PySem.W.Frag} {mg:Str→Option Value} {base:Heap} {N:List Str} {qual:Str} {f:Addr} {x:Str} {st:Stmt} {fd:FuncData} {ps:List Str} {k:Nat} {sp:Sp} (F:Fun K x qual st f fd) (S:FnScope N ps (defScope st)) (len:∀ vs H Q E,sp vs H Q E→vs.length=ps.length)
  (hbody:∀ (cdv:Value) (A:Around) (outer:List Env) (s:Shared) (H:Hp) (vs:List V) (Q:VK) (E:XK),Room k (A.deeper (envOfC qual (defScope st) s.heap.objs.size f cdv))→sp vs H Q E →
   ∃ t,PSs (cxOf (CXD P w) P w K mg base N qual (defScope st) f cdv A outer s H E) (defBody st) t∧t { nx:=fun _ H'=>Q .non H',rt:=Q } (start N vs) H):FnOk P w K mg base (CXD P w) (k + 1) f fd ps sp:=by
 obtain ⟨oc,od,kV,doc,pm,an,cdv,ct,osl,rfl,lk,hcd⟩:=F.ex
 exact fn_of lk hcd S len fun A outer s H vs Q E hr hsp=>hbody cdv A outer s H vs Q E hr hsp
noncomputable def HasD (P:Program) (w:World) (K:PySem.W.Frag) (mg:Str→Option Value) (base:Heap) (k:Nat) (x:Str) (ps:List Str) (sp:Sp):Prop :=
 Ex_2_4 (fun (f:Addr) (fd:FuncData)=>FnOk P w K mg base (CXD P w) k f fd ps sp) (fun f fd=>mg x=some (.ref f)) (fun f fd=>PySem.W.keepIn K (.ref f)=true) (fun f fd=>Binds K fd ps [])
section
variable {M:Model} {A:Around} {E:Value→Shared→Prop}
theorem xm {h:Heap} {g:Array GenState} {d:Drawn} {t:Nat} {os:OsState} {e C N:Addr} {oe:Obj} {c:Value} {b:Bool} {Q:Bool→Shared→Prop} {bmB bm bs:List Value} {nm qn:Str} {sn:List Str} {sub:List Value} {ab:Bool} {col:Option Bool} {dd:Option Addr} {k0 k1 k2 k3 k5:Option Value} {newId:String}
  (hC:h.get? C=some (excClassObj nm qn C N bs bm true sn sub ab col dd k0 k1 k2 k3 k5 newId)) (T:OwnTail h bmB bm) (hb:bmB.contains (.type "BaseException")=true) (he:h.get? e=some oe) (hc:oe.cls=c) (hs:PySem.W.Looks M h (isSubtype c (.ref C)) b)
  (hq:Q b ⟨h,g,d,t,os⟩):wpAny M A (excMatches (.ref e) (.ref C)) Q E ⟨h,g,d,t,os⟩:=by
 have cB:(Value.ref C :: bm).contains (.type "BaseException")=true:=by rw [List.contains_cons,T.hasType hb,Bool.or_true]
 have f:=tc_notTuple
 unfold excMatches
 repeat (first | (with_reducible refine wpAny_loadPart_at he ?_; rw [hc]) | with_reducible refine wpAny_loadPart_at hC ?_ | with_reducible refine hs.at ?_ | (with_reducible refine wpAny_isSubtype_exc hC ?_; rw [cB]) | wp_step)
 cases b <;> (first | exact hq | (wp_walk; exact hq))
end
noncomputable def FlS (X:Cx) (pins:List (Addr×Obj)) (σ:St) (H:Hp) (B:Heap) (a:Addr) (c a0:Value) (dx:Option Addr) (s:Shared):Prop :=
 FlyD B X.stack a c a0 dx .none s.heap∧∀ h5,FlyD B X.stack a c a0 dx .none h5→s.heap.UpToSlots h5→Inv X pins σ H { s with heap:=h5 } ∧
  ∃ ob,ob.cls=c∧ob.dict=dx∧PySem.W.notCls ob=true∧h5.get? a=some ob∧H a=none∧a≠X.env.locals∧a ∉ X.fs∧∀ v,ob.data≠.cell v
noncomputable abbrev TH:=Addr→Value→Option Addr→TS
noncomputable def PH (X:Cx) (hs:List ExceptHandler) (th:TH):Prop:=∀ (pins:List (Addr×Obj)) (σ:St) (H:Hp) (s:Shared) (D:Ends) (B:Heap) (a:Addr) (c a0:Value) (dx:Option Addr) (E':Value→Shared→Prop),
 FlS X pins σ H B a c a0 dx s→th a c dx D σ H→wpAny (model X.prog X.w) X.A (handleBy (.ref a) X.env hs) (SP X pins D) E' s
noncomputable def hNone:TH:=fun _ _ _ _ _ _=>False
theorem ph_nil {X:Cx}:PH X [] hNone:=fun _ _ _ _ _ _ _ _ _ _ _ _ h=>h.elim
noncomputable def hCons (K:PySem.W.Frag) (CD:Addr) (ie:Nat) (ts:Addr→Obj→TS) (tr:TH):TH:=fun a c dx D σ H=>∃ b,PySem.W.subIn K c (.ref CD)=some b ∧
 if b=true then ∀ ob,ob.cls=c→ob.dict=dx→PySem.W.notCls ob=true→ts a ob { nx:=fun σ' H'=>D.nx (σ'.set ie none) H',rt:=D.rt } (σ.set ie (some (.ref a))) H else tr a c dx D σ H
section
variable {X:Cx} {CD:Addr} {ie:Nat} {cn en:Str} {np hpos:Pos} {b₀:Stmt} {suite:List Stmt} {ts:Addr→Obj→TS} {tr:TH} {rest:List ExceptHandler}
theorem ph_cons (hN:X.N.Nodup) (hie:X.N[ie]?=some en) (hen:X.env.scope.names.lookup en=some .local) (hm:X.mg cn=some (.ref CD)) (q:∃ ini,excAny X.K CD veB "ValueError.__new__" ini=true)
  (hs:∀ pins a ob,PSs (X.held pins a ob) (b₀ :: suite) (ts a ob)) (hr:PH X rest tr) (hg:Gl X cn:=by rfl) (hdc:(cn == ("__debug__":Str))=false:=by decide) :
  PH X (.ExceptHandler (some (.Name cn np)) (some en) (b₀ :: suite) hpos :: rest) (hCons X.K CD ie ts tr):=by
 intro pins σ H s D B a c a0 dx E' F h
 obtain ⟨fl,inv⟩:=id F
 obtain ⟨b,hb,h⟩:=h
 obtain ⟨I5,ob5,c5,d5,n5,p5⟩:=inv s.heap fl (Heap.UpToSlots.refl _)
 obtain ⟨ini,q⟩:=q
 obtain ⟨bm,N,nm,qn,bs,sn,sub,ab,col,dd,k0,k1,k2,k3,k5,mN,hC,hNs,hi,TL⟩:=exc_any I5.kIn q
 obtain ⟨hh,g,d,tk,os⟩:=s
 refine wpAny_handleBy_cons (codeAny_handlers_test (ld_glob (X:=X.held pins a ob5) (I5.hold p5) hg hm ?_ hdc)) (by intro z; cases z)
 refine xm hC TL (by decide) p5.1 c5 (PySem.W.looks_subIn I5.kIn hb) ?_
 cases b with
 | false=>exact hr pins σ H _ D B a c a0 dx E' F h
 | true =>
  refine codeAny_handlers_suite_as (flightD fl fun h6 g6 u6=>?_)
  obtain ⟨I6,ob6,c6,d6,n6,p6⟩:=inv h6 g6 u6
  refine store_ok (X:=X.held pins a ob6) (v:=.ref a) (I6.hold p6) hN hie (.inl hen) rfl (fun s7 I7=>?_) (.inr hen)
  refine wpAny_mono (hs pins a ob6 [] s7 _ _ _ I7 (h ob6 c6 d6 n6)) (fun fw s8 h8=>?_) fun _ _ z=>False.elim z
  cases fw with
  | next =>
   obtain ⟨σ',H2,I8,q8⟩:=h8
   exact name_goes (I8.unhold I5.ok) hN hie hen fun s9 I9=>⟨_,_,I9,q8⟩
  | brk=>obtain ⟨_,_,_,z⟩:=h8; exact False.elim z
  | cont=>obtain ⟨_,_,_,z⟩:=h8; exact False.elim z
  | ret u =>
   obtain ⟨v,σ',H2,I8,rv,q8⟩:=h8
   exact name_goes (I8.unhold I5.ok) hN hie hen fun s9 I9=>⟨v,_,_,I9,rv,q8⟩
end
section
variable {X:Cx} {pins:List (Addr×Obj)} {σ:St} {H1:Hp} {s1 s':Shared} {D:Ends} {e:Value} {th:TH} {hs:List ExceptHandler}
theorem caughtD (I1:Inv X pins σ H1 s1) (hst:X.stack=X.env :: X.outer) (hfr:X.env.frame=some X.env.locals) (hp:PH X hs th)
  (hc:CXD X.prog X.w X.stack H1 s1 (fun c dx H2=>∀ a,th a c dx D σ H2) e s') {E':Value→Shared→Prop} :
  wpAny (model X.prog X.w) X.A (noteFrame e X.env) (fun _ s₂=>wpAny (model X.prog X.w) X.A (setFlight e none) (fun _ s₃=>wpAny (model X.prog X.w) X.A (handleBy e X.env hs) (SP X pins D) E' s₃) E' s₂) E' s':=by
 obtain ⟨a,T,c,a0,dx,H',rfl,os,bare,un,hok,⟨oe,vs,oT,tv,he,hcl,hd,h1,hTa,hT,hdT,h3⟩,na,nT,fa,fT,rd⟩:=hc
 obtain ⟨hh,g,d,tk,os'⟩:=s'
 dsimp only at os bare un hok he hT
 have I':Inv X pins σ H' ⟨hh,g,d,tk,os'⟩:=I1.call' (ch:=[]) os un hok bare fun b z=>nomatch z
 have nn:∀ b∈[a,T] ++ frs X.stack,H' b=none:=fun b hb=>by
  rcases List.mem_append.mp hb with hb | hb
  ·rcases List.mem_cons.mp hb with rfl | hb
   ·exact na
   ·obtain rfl:=List.mem_singleton.mp hb
    exact nT
  ·exact I'.stkFree b hb
 have inv:∀ h5,FlyD (PySem.W.hideAll hh ([a,T] ++ frs X.stack)) X.stack a c a0 dx .none h5→hh.UpToSlots h5→Inv X pins σ H' ⟨h5,g,d,tk,os'⟩∧∃ ob,ob.cls=c∧ob.dict=dx∧PySem.W.notCls ob=true∧h5.get? a=some ob∧H' a=none∧a≠X.env.locals∧a ∉ X.fs∧∀ v,ob.data≠.cell v:=fun h5 fl up=>by
  have J:Inv X pins σ H' ⟨h5,g,d,tk,os'⟩:=I1.call' (ch:=[]) os (un.fly fl.1 up (fun b hb=>by
   rcases List.mem_cons.mp hb with rfl | hb
   ·exact fa
   ·obtain rfl:=List.mem_singleton.mp hb
    exact fT) (fun b hb=>.inl hb) I1.frs_nf) (hok.fly fl.1 nn) bare fun b z=>nomatch z
  obtain ⟨ob,ws,_,_,_,e1,⟨e2,_,e4⟩,e3,_⟩:=fl.2.2.2
  refine ⟨J,ob,e2,e4,?_,e1,na,fun z=>?_,fun z=>?_,fun v z=>by rw [e3] at z; cases z⟩
  ·unfold PySem.W.notCls; rw [e3]
  ·obtain ⟨m,⟨o,_,_,ho,_⟩,_⟩:=I1.loc
   rw [← z,fa] at ho; cases ho
  ·obtain ⟨_,o,ho,_⟩:=I1.ok.funs.mem z
   obtain ⟨o',e'⟩:=I1.base.any ho (I1.ok.frf a z) (fun y=>I1.ok.exfs a y z)
   rw [fa] at e'; cases e'
 have fl:FlyD (PySem.W.hideAll hh ([a,T] ++ frs X.stack)) X.stack a c a0 dx .none hh:=⟨fun b o z=>PySem.W.of_hideAll _ z,PySem.W.hideAll_none _ (by simp),frames_hid I'.stack,oe,vs,T,oT,tv,he,hcl,hd,h1,PySem.W.hideAll_none _ (by simp),hTa,hT,hdT,h3⟩
 have fr:=I'.ok.frames
 generalize PySem.W.hideAll hh ([a,T] ++ frs X.stack)=B at inv fl
 have fl':=fl
 rw [hst] at fl' fr
 refine noteD (s:=⟨hh,g,d,tk,os'⟩) fr hfr fl' fun h4 g4 u4=>flightD (s:=⟨h4,g,d,tk,os'⟩) g4 fun h5 g5 u5=>?_
 rw [← hst] at g5
 exact hp pins σ H' ⟨h5,g,d,tk,os'⟩ D B a c a0 dx E' ⟨g5,fun h6 g6 u6=>inv h6 g6 ((u4.trans u5).trans u6)⟩ (rd a)
end
section
variable {X:Cx} {i k:Nat} {x y:Str} {ps:List Str} {sp:Sp} {p1 p2 cpos apos pos:Pos} {e:Expr} {es:List Expr} {t:TA} {h0:ExceptHandler} {hs:List ExceptHandler} {th:TH}
theorem call_try {pins:List (Addr×Obj)} {s:Shared} {σ:St} {H:Hp} {Q:VK} {D:Ends} (h:HasD X.prog X.w X.K X.mg X.base k y ps sp) (hr:Room k X.A) (hX:∀ e s,X.xe e s→False) (hst:X.stack=X.env :: X.outer) (hfr:X.env.frame=some X.env.locals) (ha:PA X (e :: es) t) (hp:PH X (h0 :: hs) th)
  (I:Inv X pins σ H s) (q:t σ H fun vs H1=>sp vs H1 Q (fun c dx H2=>∀ a,th a c dx D σ H2)) {E':Value→Shared→Prop} (hg:Gl X y) (hdb:(y == ("__debug__":Str))=false)
  (he:starEach (e :: es) X.env=(false,eval e X.env) :: starEach es X.env) (hpl:(backTo cpos (starEach es X.env)).any (·.1)=false) :
  wpAny (model X.prog X.w) X.A (eval (.Call (.Name y p2) (e :: es) [] cpos) X.env) (EP X pins σ Q) (fun e s₁=>wpAny (model X.prog X.w) X.A (noteFrame e X.env) (fun _ s₂=>wpAny (model X.prog X.w) X.A (setFlight e none) (fun _ s₃=>wpAny (model X.prog X.w) X.A (handleBy e X.env (h0 :: hs)) (SP X pins D) E' s₃) E' s₂) E' s₁) s:=by
 obtain ⟨f,fd,F,hmf,hk,hbd⟩:=h
 refine wpAny_Call_Name_kw (ld_glob I hg hmf ?_ hdb)
 refine PySem.W.callWith_K (h₀:=X.base) I.ok.mod.kin hk (wpAny_mono (ha cpos pins s σ H _ I q) (fun us s1 hA=>?_) fun _ _ z=>(hX _ _ z).elim) he hpl
 obtain ⟨vs,H1,I1,r,q1⟩:=hA
 refine ⟨I1.kIn,?_⟩
 have hl:us.length=ps.length:=by rw [← r.length]; exact F.len _ _ _ _ q1
 have bn:=hbd s1 us I1.kIn (by rw [List.append_nil]; exact hl)
 rw [List.append_nil] at bn
 refine wpAny_call (codeAny_mono (F.run X.A X.stack s1 H1 ⟨us,[]⟩ us vs _ _ hr I1.env0 bn r q1) fun rr s2 hq=>?_)
 cases rr with
 | error e2=>exact caughtD I1 hst hfr hp hq
 | ok fl =>
  cases fl with
  | ret u=>exact I1.after hq
  | next=>exact False.elim hq
  | brk=>exact False.elim hq
  | cont=>exact False.elim hq
noncomputable def tTryA (i:Nat) (sp:Sp) (t:TA) (th:TH):TS:=fun D σ H=>t σ H fun vs H1=>sp vs H1 (fun v H2=>D.nx (σ.set i (some v)) H2) (fun c dx H2=>∀ a,th a c dx D σ H2)
theorem ps_tryA (h:HasD X.prog X.w X.K X.mg X.base k y ps sp) (hr:Room k X.A) (hX:∀ e s,X.xe e s→False) (hst:X.stack=X.env :: X.outer) (hfr:X.env.frame=some X.env.locals) (hN:X.N.Nodup) (hi:X.N[i]?=some x) (hx:Loc X.env.scope x)
  (ha:PA X (e :: es) t) (hp:PH X (h0 :: hs) th) (hg:Gl X y:=by rfl) (hdb:(y == ("__debug__":Str))=false:=by decide)
  (he:starEach (e :: es) X.env=(false,eval e X.env) :: starEach es X.env:=by rfl) (hpl:(backTo cpos (starEach es X.env)).any (·.1)=false:=by rfl)
  (hsw:swapsWith (.Call (.Name y p2) (e :: es) [] cpos) (some (.Name x p1)) apos.line X.env=pure false:=by rfl)
  (hf:X.fn x=true∨X.env.scope.names.lookup x=some .local:=by first | exact .inl rfl | exact .inr rfl | assumption) :
  PS X (.Try [.Assign [.Name x p1] (.Call (.Name y p2) (e :: es) [] cpos) apos] (h0 :: hs) [] [] pos) (tTryA i sp t th):=by
 intro pins s σ H D I q
 refine wpAny_Try_except (wpAny_execs_cons (wpAny_Assign_Name (thnE (call_try h hr hX hst hfr ha hp I q hg hdb he hpl) fun u s2 v H2 I2 rv q2=>?_) hsw))
 exact store_ok I2 hN hi hx rv (fun s3 I3=>wpAny_execs_nil (wpAny_execs_nil ⟨_,H2,I3,q2⟩)) hf
noncomputable def tTryE (sp:Sp) (t:TA) (th:TH):TS:=fun D σ H=>t σ H fun vs H1=>sp vs H1 (fun _ H2=>D.nx σ H2) (fun c dx H2=>∀ a,th a c dx D σ H2)
theorem ps_tryE (h:HasD X.prog X.w X.K X.mg X.base k y ps sp) (hr:Room k X.A) (hX:∀ e s,X.xe e s→False) (hst:X.stack=X.env :: X.outer) (hfr:X.env.frame=some X.env.locals)
  (ha:PA X (e :: es) t) (hp:PH X (h0 :: hs) th) (hg:Gl X y:=by rfl) (hdb:(y == ("__debug__":Str))=false:=by decide)
  (he:starEach (e :: es) X.env=(false,eval e X.env) :: starEach es X.env:=by rfl) (hpl:(backTo cpos (starEach es X.env)).any (·.1)=false:=by rfl)
  (hsw:swapsWith (.Call (.Name y p2) (e :: es) [] cpos) none apos.line X.env=pure false:=by rfl) :
  PS X (.Try [.Expr (.Call (.Name y p2) (e :: es) [] cpos) apos] (h0 :: hs) [] [] pos) (tTryE sp t th):=by
 intro pins s σ H D I q
 refine wpAny_Try_except (wpAny_execs_cons (wpAny_Expr_any (thnE (call_try h hr hX hst hfr ha hp I q hg hdb he hpl) fun u s2 v H2 I2 rv q2=>?_) I.quiet hsw))
 exact wpAny_execs_nil (wpAny_execs_nil ⟨σ,H2,I2,q2⟩)
end
end L2
set_option Elab.async false
set_option linter.all false
set_option maxRecDepth 100000
set_option maxHeartbeats 1000000
namespace L2
open PySem PySem.Spec PyProof.Rows
section
variable {X:Cx}
theorem mt_find:MtR X "str.find" (fun x vs H Q=>Ex_2_2 (fun z y=>x=.str z) (fun z y=>((vs=[.str y]∧Q (.int (Txt.find z y)) H)∨∃ i:Int,vs=[.str y,.int i]∧Q (.int (Txt.find3 z y i)) H))):=by
 intro pins s σ H x vs v us Q I rx rv h
 obtain ⟨z,y,rfl,h⟩:=h
 obtain ⟨t,rfl⟩:=rx
 rcases h with ⟨rfl,q⟩ | ⟨i,rfl,q⟩
 ·obtain ⟨u,rfl,ru⟩:=vals1 rv
  obtain ⟨t2,rfl⟩:=ru
  exact SC.find ⟨.int _,H,I.tok _,⟨_,rfl⟩,q⟩
 ·obtain ⟨u,u',rfl,ru,ru'⟩:=vals2 rv
  obtain ⟨t2,rfl⟩:=ru
  obtain ⟨t3,rfl⟩:=ru'
  exact SC.find3 ⟨.int _,H,I.tok _,⟨_,rfl⟩,q⟩
theorem op_repS:OpR X (binaryOp .Mult) (fun x y H Q=>Ex_2_6 (fun (z:Str) (n:Int)=>x=.str z) (fun z n=>y=.int n) (fun z n=>z.length=1) (fun z n=>2≤n) (fun z n=>n≤1000) (fun z n=>∀ u:Str,u.length=n.toNat→Q (.str u) H)):=by
 intro pins s σ H x y v u Q I rx ry h
 obtain ⟨z,n,rfl,rfl,hz,h1,h2,q⟩:=h
 obtain ⟨t,rfl⟩:=rx
 obtain ⟨t',rfl⟩:=ry
 have n1:(n == 1 || z.length == 0)=false:=by
  rw [Bool.or_eq_false_iff]
  exact ⟨beq_eq_false_iff_ne.mpr (by lia),beq_eq_false_iff_ne.mpr (by lia)⟩
 have hl:Builtin.Str.tooLong (z.length * n.toNat)=false:=by
  unfold Builtin.Str.tooLong
  rw [hz,Nat.one_mul]
  refine decide_eq_false ?_
  have:=sizeLine_eq
  lia
 refine P.mul_str (by rw [decide_eq_false (by lia),decide_eq_false (by lia)]; rfl) (fun _ _=>?_) (fun _ _=>hl) ?_
 ·rw [hz]
  have:1≤((2:Int) ^ 63 - 1) / n:=by
   refine (Int.le_ediv_iff_mul_le (by lia)).mpr ?_
   lia
  lia
 ·rw [if_neg (by lia),n1,if_neg Bool.false_ne_true]
  have hlen:(⟨(List.replicate n.toNat z.cps).foldl (· ++ ·) #[]⟩:Str).length=n.toNat:=by
   have key:∀ (k:Nat) (a:Array Nat),((List.replicate k z.cps).foldl (· ++ ·) a).size=a.size + k:=fun k=>by
    induction k with
    | zero=>intro a; simp
    | succ k ih =>
     intro a
     rw [List.replicate_succ,List.foldl_cons,ih,Array.size_append]
     have:z.cps.size=1:=hz
     lia
   have:=key n.toNat #[]
   simpa [Str.length] using this
  exact ⟨by rw [hlen,sizeLine_eq]; lia,⟨.str _,H,I.tok _,⟨_,rfl⟩,q _ hlen⟩⟩
end
inductive StrL:List Expr→List Str→Prop
 | nil:StrL [] []
 | cons {x j pos es xs}:StrL es xs→StrL (.Constant (.str x) j pos :: es) (x :: xs)
theorem pa_strs {X:Cx} {es:List Expr} {xs:List Str} (h:StrL es xs):PA X es (fun _ H Q=>Q (xs.map V.str) H):=by
 induction h with
 | nil=>exact pa_nil
 | cons _ ih=>exact pa_cons pe_str ih rfl
noncomputable def Itr3 (lo:Int) (n:Nat):It:=⟨fun i _=>i < n,fun i H x H'=>H'=H∧x=.int (lo + i * 3),fun i _=>n≤i⟩
theorem turn_range3 {P:Program} {w:World} {K:PySem.W.Frag} {tg:Expr} (it:Addr) (lo:Int) (n:Nat):Turn P w K tg (Itr3 lo n) [it] it (fun i h=>IsRangeIter h it (lo + (i:Nat) * 3) ((n:Int) - (i:Nat)) 3) where
 mem:=List.mem_singleton.mpr rfl
 obj:=fun i h st b hb=>by
  rw [List.mem_singleton.mp hb]
  exact ⟨_,st,fun v z=>by
   have z':Data.fields _=Data.cell v:=z
   cases z'⟩
 keep:=fun i h h' st k=>k it (List.mem_singleton.mpr rfl) _ st
 item:=by
  intro X hP hw hK hc i pins s σ H E I hf st hg
  subst hP hw hK
  obtain ⟨f0,f1,f2,f3,f4,f5⟩:=hf it (List.mem_singleton.mpr rfl)
  have W:=Walks.range (prog:=X.prog) (w:=X.w) (I.ok.hd hc) it lo 3 n
  refine W.item i s _ _ hg st fun v h' tk hv st' kk=>?_
  obtain ⟨t,rfl⟩:=hv
  have I1:Inv X pins σ H { s with heap:=h',toks:=tk }:=I.turned (fun b o hb e=>kk b o (fun z=>hb (List.mem_singleton.mp z)) e) f0 f1 f3 f4 f5
  exact ⟨_,rfl,go_of (s:={ s with heap:=h',toks:=tk }) (n:="range_iterator") st' rfl rfl (by decide) ⟨.int (lo + i * 3),H,I1,⟨t,rfl⟩,⟨rfl,rfl⟩,st',fun b hb=>(hf b hb).1⟩⟩
 done:=by
  intro X hP hw hK hc i pins s σ H E I hf st hg
  subst hP hw hK
  obtain ⟨f0,f1,f2,f3,f4,f5⟩:=hf it (List.mem_singleton.mpr rfl)
  exact wpAny_pyNext_range_end (I.ok.hd hc) st (by have:n≤i:=hg; lia) fun h' eb=>⟨rfl,I.turned (t':=s.toks) (fun b o hb e=>eb b o hb e) f0 f1 f3 f4 f5⟩
 self:=fun _ _ _ _ _ st h=>wpAny_pyIter_rangeiter st h
noncomputable def iRng3 (ta:TA):TI:=fun σ H R=>ta σ H fun vs H1=>Ex_2_3 (fun (a b:Int)=>vs=[.int a,.int b,.int 3]) (fun a b=>(0≤a∧a < 1000∧-1000≤b∧b < 1000)) (fun a b=>R (Itr3 a (Builtin.Range.rangeSize a b 3).toNat) H1)
theorem pi_range3 {X:Cx} {tg a b c:Expr} {ta:TA} {p pos:Pos} (hg:Gl X "range") (hm:X.mg "range"=none) (ha:PA X [a,b,c] ta) (hs:starEach [a,b,c] X.env=[(false,eval a X.env),(false,eval b X.env),(false,eval c X.env)]:=by rfl) (hs2:starEach [b,c] X.env=[(false,eval b X.env),(false,eval c X.env)]:=by rfl) :
  PI X tg (.Call (.Name "range" p) [a,b,c] [] pos) (iRng3 ta):=by
 intro pins s σ H R I h
 refine Call_ (ld_blt I hg hm boot_range (PyProof.Rows.callWith_type1 (thnA (ha pos pins s σ H _ I h) fun us s1 vs H1 I1 r1 q1=>?_) (by rw [hs,hs2]) (by rw [hs2]; rfl)))
 obtain ⟨i,j,rfl,⟨q1,q2,q3,q4⟩,q⟩:=q1
 obtain ⟨u1,w1,rfl,r2,w2⟩:Ex_2_3 (fun u1 w1=>us=u1 :: w1) (fun u1 w1=>RelV (.int i) u1) (fun u1 w1=>Vals [.int j,.int 3] w1):=by cases r1 with | cons a b=>exact ⟨_,_,rfl,a,b⟩
 obtain ⟨u2,u3,rfl,r3,r4⟩:=vals2 w2
 obtain ⟨t,rfl⟩:=r2
 obtain ⟨t',rfl⟩:=r3
 obtain ⟨t3,rfl⟩:=r4
 refine call_range_3 (by decide) ?_ (.inl (PyProof.noPylong_small (by decide)))
 have hrs:0≤Builtin.Range.rangeSize i j 3:=by
  unfold Builtin.Range.rangeSize
  rw [if_pos (by decide)]
  split <;> lia
 have hsm:Builtin.Range.small i j 3=true:=by
  unfold Builtin.Range.small
  have hb:Builtin.Range.rangeSize i j 3≤2001:=by
   unfold Builtin.Range.rangeSize
   rw [if_pos (by decide)]
   split <;> lia
  simp only [Builtin.Range.rangeFitsLong,Bool.and_eq_true,Bool.or_eq_true,decide_eq_true_eq,beq_iff_eq,show (3:Int) > 0 by decide,if_true]
  lia
 refine wpAny_pyIter_range (IsRange.new ..) hsm ?_
 have I2:Inv X pins σ H1 { s1 with heap:=s1.heap.push { cls:=.type "range",data:=.fields #[.int i t,.int j t',.int 3 t3] },toks:=s1.toks }:=I1.kept fun b o e=>Heap.get?_push_of_some _ e
 refine ⟨(s1.heap.push { cls:=.type "range",data:=.fields #[.int i t,.int j t',.int 3 t3] }).objs.size,[(s1.heap.push { cls:=.type "range",data:=.fields #[.int i t,.int j t',.int 3 t3] }).objs.size],_,_,H1,rfl,
  I2.kept (t':=s1.toks) fun b o e=>Heap.get?_push_of_some _ e,turn_range3 _ i (Builtin.Range.rangeSize i j 3).toNat,?_,fun b hb=>?_,q⟩
 ·have e1:i + ((0:Nat):Int) * 3=i:=by lia
  have e2:(((Builtin.Range.rangeSize i j 3).toNat:Nat):Int) - ((0:Nat):Int)=Builtin.Range.rangeSize i j 3:=by lia
  show IsRangeIter _ _ (i + ((0:Nat):Int) * 3) ((((Builtin.Range.rangeSize i j 3).toNat:Nat):Int) - ((0:Nat):Int)) 3
  rw [e1,e2]
  exact Heap.get?_push_size _ rfl
 ·rw [List.mem_singleton.mp hb]
  exact I2.fpOk (Nat.le_refl _) (I2.hok.fresh (Nat.le_refl _))
theorem size3 {a b:Int} {i:Nat} (h:i < (Builtin.Range.rangeSize a b 3).toNat):a + i * 3 < b:=by
 unfold Builtin.Range.rangeSize at h
 rw [if_pos (by decide)] at h
 split at h <;> lia
theorem comp_range3 {D:Addr} {lo:Int} {n:Nat} {g:TG} {tt:TT} {te:TE} {σc:St} {H:Hp} {F:Hp→Prop} (Pv:Nat→St→List V→Hp→Prop) (h0:Pv 0 σc [] (upd H D (.lst [])))
  (hl:∀ i σ ys H,i≤n→Pv i σ ys H→H D=some (.lst ys)∧ys.length≤i) (hz:n≤sizeLine)
  (hs:∀ i σ ys H,i < n→Pv i σ ys H→g (.int (lo + i * 3)) σ H fun σ2 H2=>tt σ2 H2 fun b H3=>if b=true then te σ2 H3 fun y H4=>H4 D=some (.lst ys)∧Pv (i + 1) σ2 (ys ++ [y]) (upd H4 D (.lst (ys ++ [y]))) else Pv (i + 1) σ2 ys H3)
  (hd:∀ σ ys H,Pv n σ ys H→F H):tLoopC g tt te σc D (Itr3 lo n) H F:=by
 refine ⟨fun i m σ ys H=>m=n - i∧i≤n∧Pv i σ ys H,⟨n,by simp,Nat.zero_le _,h0⟩,?_⟩
 rintro i m σ ys H ⟨rfl,hi,p⟩
 obtain ⟨hD,hy⟩:=hl i σ ys H hi p
 refine ⟨hD,?_⟩
 by_cases hlt:i < n
 ·refine .inr ⟨hlt,by lia,Pv (i + 1),fun σ' ys' H' p'=>⟨n - (i + 1),by lia,rfl,hlt,p'⟩,fun x H' y=>?_⟩
  obtain ⟨e,y⟩:=y
  subst e y
  exact hs i σ ys _ hlt p
 ·have e:i=n:=by lia
  subst e
  exact .inl ⟨Nat.le_refl _,hd σ ys H p⟩
theorem for_text {z:Str} {g:TG} {tb:TS} {D:Ends} {σ:St} {H:Hp} (Pv:Nat→St→Hp→Prop) (h0:Pv 0 σ H)
  (hs:∀ i c σ H,z.cps[i]?=some c→Pv i σ H→g (.str ⟨#[c]⟩) σ H fun σ2 H2=>tb { D with nx:=Pv (i + 1),ct:=Pv (i + 1),bk:=D.nx } σ2 H2) (hd:∀ σ H,Pv z.cps.size σ H→D.nx σ H) :
  ∃ W:Nat→Nat→St→Hp→Prop,(∃ m,W 0 m σ H)∧∀ i m σ H,W i m σ H →
   ((Itx z).stop i H∧D.nx σ H)∨((Itx z).go i H∧∃ N:St→Hp→Prop,(∀ σ' H',N σ' H'→∃ m',m' < m∧W (i + 1) m' σ' H')∧∀ x H',(Itx z).yld i H x H'→g x σ H' fun σ2 H2=>tb { D with nx:=N,ct:=N,bk:=D.nx } σ2 H2):=by
 refine ⟨fun i m σ H=>m=z.cps.size - i∧i≤z.cps.size∧Pv i σ H,⟨z.cps.size,by simp,Nat.zero_le _,h0⟩,?_⟩
 rintro i m σ H ⟨rfl,hi,p⟩
 by_cases hlt:i < z.cps.size
 ·refine .inr ⟨hlt,Pv (i + 1),fun σ' H' p'=>⟨z.cps.size - (i + 1),by lia,rfl,hlt,p'⟩,fun x H' y=>?_⟩
  obtain ⟨e,c,hc,rfl⟩:=y
  subst e
  exact hs i c σ _ hc p
 ·have e:i=z.cps.size:=by lia
  subst e
  exact .inl ⟨Nat.le_refl _,hd σ H p⟩
theorem ifNB {c A B:Prop} [Decidable c] (h1:¬ c→A) (h2:c→B):if (!decide c)=true then A else B:=by
 by_cases h:c
 ·rw [decide_eq_true h]; exact h2 h
 ·rw [decide_eq_false h]; exact h1 h
theorem at0g {α:Type} {x:α} {xs:List α}:atI (x :: xs) 0=some x:=atI_nat (j:=0) rfl
theorem atI_neg {α:Type} {xs:List α} {k:Nat} {v:α} (hk:1≤k) (hl:k≤xs.length) (h:xs[xs.length - k]?=some v):atI xs (-(k:Int))=some v:=by
 have e:ixN xs.length (-(k:Int))=some (xs.length - k):=by
  unfold ixN
  rw [if_neg (by lia),if_pos (by lia)]
  congr 1
  lia
 unfold atI
 rw [e]
 exact h
theorem cut_back (xs:List V) {k:Nat} (hk:1≤k) (hl:k≤xs.length):cutV xs none (some (-(k:Int)))=xs.take (xs.length - k):=by
 unfold cutV
 have e1:HT.sIx xs.length 0 none=0:=rfl
 have e2:HT.sIx xs.length xs.length (some (-(k:Int)))=xs.length - k:=by
  have e3:HT.sIx xs.length xs.length (some (-(k:Int)))=(-(k:Int) + (xs.length:Int)).toNat:=by unfold HT.sIx; exact if_pos (by lia)
  rw [e3]
  lia
 rw [e1,e2,List.drop_zero,Nat.sub_zero]
end L2
set_option Elab.async false
set_option linter.all false
set_option maxRecDepth 100000
set_option maxHeartbeats 1000000
namespace L2
open PySem PySem.Spec PyProof.Rows
structure IsXo (K:PySem.W.Frag) (H:Hp) (ob:Obj) (C:Addr) (fs:Option (List (Str×V))):Prop where
 cls:ob.cls=.ref C
 no:PySem.W.notCls ob=true
 dict:match ob.dict,fs with | none,none=>True | some dx,some l=>H dx=some (.xd l) | _,_=>False
 cl:XCls K C
theorem IsXo.d {K:PySem.W.Frag} {H:Hp} {ob:Obj} {C dx:Addr} {l:List (Str×V)} (h1:ob.cls=.ref C) (h2:ob.dict=some dx) (h3:PySem.W.notCls ob=true) (hd:H dx=some (.xd l)) (c:XCls K C):IsXo K H ob C (some l):=⟨h1,h3,by rw [h2]; exact hd,c⟩
theorem IsXo.n {K:PySem.W.Frag} {H:Hp} {ob:Obj} {C:Addr} (h1:ob.cls=.ref C) (h2:ob.dict=none) (h3:PySem.W.notCls ob=true) (c:XCls K C):IsXo K H ob C none:=⟨h1,h3,by rw [h2]; trivial,c⟩
theorem IsXo.same {K:PySem.W.Frag} {H H':Hp} {ob:Obj} {C:Addr} {fs:Option (List (Str×V))} (s:Same H H') (h:IsXo K H ob C fs):IsXo K H' ob C fs:=by
 obtain ⟨h1,h2,h3,h4⟩:=h
 refine ⟨h1,h2,?_,h4⟩
 cases e:ob.dict with
 | none =>
  rw [e] at h3
  cases fs with
  | none=>trivial
  | some l=>exact h3.elim
 | some dx =>
  rw [e] at h3
  cases fs with
  | none=>exact h3.elim
  | some l=>exact s _ _ h3
section
variable {X:Cx} {pins:List (Addr×Obj)} {a:Addr} {ob:Obj}
theorem held_isx {H:Hp} {C:Addr} {fs:Option (List (Str×V))} (h:IsXo X.K H ob C fs):IsX (X.held pins a ob) H a C fs :=
 ⟨⟨ob,.inl (List.mem_append_right _ (List.mem_singleton.mpr rfl)),h.cls,h.no,h.dict⟩,h.cl⟩
theorem is_hX:CallR (X.held pins a ob) (.builtin "isinstance") (fun xs H Q=>Ex_5_5 (fun C fs y c b=>xs=[.ref a,y]) (fun C fs y c b=>IsXo X.K H ob C fs) (fun C fs y c b=>(∀ u,RelV y u→u=c)) (fun C fs y c b=>PySem.W.kitOne X.K (.ref C) c=some b) (fun C fs y c b=>Q (.bl b) H)):=by
 intro pins' s σ H xs us Q I r h
 obtain ⟨C,fs,y,c,b,e,hx,h1,h2,q⟩:=h
 exact call_isX pins' s σ H xs us Q I r ⟨a,C,fs,y,c,b,e,held_isx hx,h1,h2,q⟩
theorem is_hXT:CallR (X.held pins a ob) (.builtin "isinstance") (fun xs H Q=>Ex_5_5 (fun (C:Addr) (fs:Option (List (Str×V))) (tp:Addr) (cs:List Addr) (b:Bool)=>xs=[.ref a,.ref tp]) (fun C fs tp cs b=>IsXo X.K H ob C fs) (fun C fs tp cs b=>SqT X.K H tp (cs.map V.ref)) (fun C fs tp cs b=>PySem.W.kitAny X.K (.ref C) (cs.map Value.ref)=some b) (fun C fs tp cs b=>Q (.bl b) H)):=by
 intro pins' s σ H xs us Q I r h
 obtain ⟨C,fs,tp,cs,b,e,hx,h1,h2,q⟩:=h
 exact call_isXT pins' s σ H xs us Q I r ⟨a,C,fs,tp,cs,b,e,held_isx hx,h1,h2,q⟩
noncomputable def tHGet (K:PySem.W.Frag) (a:Addr) (ob:Obj) (te:TE) (f:Str):TE:=fun σ H Q=>te σ H fun x H1=>Ex_3_5 (fun C fs v=>x=.ref a) (fun C fs v=>IsXo K H1 ob C (some fs)) (fun C fs v=>NoAttr K C f) (fun C fs v=>fs.lookup f=some v) (fun C fs v=>Q v H1)
theorem pe_hget {e:Expr} {f:Str} {pos:Pos} {te:TE} (he:PE (X.held pins a ob) e te) (hb:attributeBase e f (X.held pins a ob).env (eval e (X.held pins a ob).env)=eval e (X.held pins a ob).env) (mono:∀ σ H Q Q',(∀ v H1,Q v H1→Q' v H1)→te σ H Q→te σ H Q'):PE (X.held pins a ob) (.Attribute e f pos) (tHGet X.K a ob te f):=by
 intro pins' s σ H Q I h
 refine pe_xget he hb pins' s σ H Q I (mono _ _ _ _ (fun v H1 q=>?_) h)
 obtain ⟨C,fs,u,e,hx,h1,h2,q⟩:=q
 exact ⟨a,C,fs,u,e,held_isx hx,h1,h2,q⟩
theorem var_mono {i:Nat}:∀ σ H (Q Q':VK),(∀ v H1,Q v H1→Q' v H1)→tVar i σ H Q→tVar i σ H Q':=fun σ H Q Q' h q=>by
 obtain ⟨v,e,q⟩:=q
 exact ⟨v,e,h _ _ q⟩
theorem call_isIntH:CallR (X.held pins a ob) (.builtin "isinstance") (rIs "int" (isIntV X.K)):=call_isInt (X:=X.held pins a ob)
theorem call_isBoolH:CallR (X.held pins a ob) (.builtin "isinstance") (rIs "bool" (isBoolV X.K)):=call_isBool (X:=X.held pins a ob)
theorem track_isx {H:Hp} {b:Addr} {C dx t:Addr} {l:List (Str×V)} (hb:H b=some (ExO b (excObj (.ref C) (some dx) t))) (hd:H dx=some (.xd l)) (c:XCls X.K C):IsX X H b C (some l) :=
 ⟨⟨_,.inr hb,rfl,rfl,hd⟩,c⟩
end
end L2
set_option Elab.async false
set_option linter.all false
set_option maxRecDepth 100000
set_option maxHeartbeats 4100000
namespace Own
open PySem L2
inductive Wd where
 | s (x:Str)
 | n (i:Int)
noncomputable def Wd.v:Wd→V | .s x=>.str x | .n i=>.int i
noncomputable def Wd.t:Wd→Str | .s x=>x | .n i=>numT i
noncomputable def Wd.ok:Wd→Prop | .s x=>isNam x=true | .n i=>i.natAbs < 10 ^ 60
noncomputable def SH:List (Str×List Str):=[("put",["name","number"]),("get",["name","name"]),("swap",["name","name","number"]),("fence",[]),("bar",[])]
noncomputable def fitsT (ws ks:List Str):Bool:=decide (ws.length=ks.length) && (ws.zip ks).all fun p=>if p.2="number" then isNum p.1 else isNam p.1
noncomputable def isGuardT (ws:List Str):Bool:=match ws with
 | []=>true
 | w :: r=>(decide (w="when") || decide (w="unless")) && fitsT r ["name","number"]
noncomputable def isDeedT (z:Str):Bool:=match Txt.split z " " with
 | []=>false
 | w :: r=>match atTab SH w with
  | none=>false
  | some sh=>fitsT (r.take sh.length) sh && isGuardT (r.drop sh.length)
noncomputable def isHandT (z:Str):Bool:=decide (z="idle") || (Txt.split z "; ").all isDeedT
noncomputable def FitsW:List Wd→List Str→Prop
 | [],[]=>True
 | w :: ws,k :: ks=>(if k="number" then ∃ i,w=.n i∧i.natAbs < 10 ^ 60 else ∃ x,w=.s x∧isNam x=true)∧FitsW ws ks
 | _,_=>False
structure DOk (ws g:List Wd):Prop where
 d:Ex_3_3 (fun k sh rest=>ws=.s k :: rest) (fun k sh rest=>atTab SH k=some sh) (fun k sh rest=>FitsW rest sh)
 g:g=[]∨Ex_2_3 (fun w rest=>g=.s w :: rest) (fun w rest=>(w="when"∨w="unless")) (fun w rest=>FitsW rest ["name","number"])
noncomputable abbrev Dat:=List Wd×List Wd
noncomputable def wtx (d:Dat):List Str:=(d.1 ++ d.2).map Wd.t
noncomputable def dtx (d:Dat):Str:=Str.join " " (wtx d)
noncomputable def htx (ds:List Dat):Str:=if ds.isEmpty=true then "idle" else Str.join "; " (ds.map dtx)
noncomputable def ptx (hs:List (List Dat)):Str:=Str.join " | " (hs.map htx)
theorem FitsW.ok:∀ {ws:List Wd} {ks:List Str},FitsW ws ks→∀ w∈ws,w.ok
 | w :: ws,k :: ks,h,u,hu=>by
  rcases List.mem_cons.mp hu with rfl | hu
  ·have h1:=h.1
   split at h1
   ·obtain ⟨i,rfl,hi⟩:=h1; exact hi
   ·obtain ⟨x,rfl,hx⟩:=h1; exact hx
  ·exact FitsW.ok h.2 u hu
 | [],_,_,_,hu=>by cases hu
 | _ :: _,[],h,_,_=>h.elim
theorem FitsW.len:∀ {ws:List Wd} {ks:List Str},FitsW ws ks→ws.length=ks.length
 | [],[],_=>rfl
 | w :: ws,k :: ks,h=>by rw [List.length_cons,List.length_cons,FitsW.len h.2]
 | [],_ :: _,h=>h.elim
 | _ :: _,[],h=>h.elim
theorem sh_cases {k:Str} {sh:List Str} (h:atTab SH k=some sh):(k,sh)∈SH:=by
 unfold atTab at h
 cases e:SH.find? fun p=>decide (k=p.1) with
 | none=>rw [e] at h; cases h
 | some p =>
  rw [e] at h
  have h1:=List.mem_of_find?_eq_some e
  have h2':=List.find?_some e
  have h2:k=p.1:=of_decide_eq_true h2'
  have h3:p.2=sh:=Option.some.inj h
  rw [h2,← h3]; exact h1
theorem nam_kinds:∀ p∈SH,isNam p.1=true∧p.2.length≤3∧(sg p.1).head?≠some 105:=by decide +kernel
theorem nam_guards:isNam "when"=true∧isNam "unless"=true:=by decide +kernel
theorem DOk.ok {ws g:List Wd} (h:DOk ws g):∀ w∈ws ++ g,w.ok:=by
 intro w hw
 rcases List.mem_append.mp hw with hw | hw
 ·obtain ⟨k,sh,rest,rfl,h2,h3⟩:=h.d
  rcases List.mem_cons.mp hw with rfl | hw
  ·exact (nam_kinds _ (sh_cases h2)).1
  ·exact h3.ok w hw
 ·rcases h.g with rfl | ⟨k,rest,rfl,h2,h3⟩
  ·cases hw
  ·rcases List.mem_cons.mp hw with rfl | hw
   ·rcases h2 with rfl | rfl
    ·exact nam_guards.1
    ·exact nam_guards.2
   ·exact h3.ok w hw
theorem DOk.len {ws g:List Wd} (h:DOk ws g):1≤ws.length∧(ws ++ g).length≤7:=by
 obtain ⟨k,sh,rest,rfl,h2,h3⟩:=h.d
 have l1:=h3.len
 have l2:=(nam_kinds _ (sh_cases h2)).2.1
 have l2':sh.length≤3:=l2
 rw [List.length_append,List.length_cons]
 rcases h.g with rfl | ⟨w,r,rfl,_,h4⟩
 ·simp; lia
 ·have l3:=h4.len
  rw [List.length_cons]
  simp at l3
  lia
theorem ok_signs {w:Wd} (h:w.ok):1≤w.t.length∧w.t.length≤61∧∀ c∈sg w.t,c=45∨(48≤c∧c≤57)∨(97≤c∧c≤122):=by
 cases w with
 | s x =>
  obtain ⟨h1,h2,h3⟩:=nam_signs h
  exact ⟨h1,Nat.le_trans h2 (by decide),fun c hc=>.inr (.inr (h3 c hc))⟩
 | n i =>
  refine ⟨?_,num_len i h,fun c hc=>?_⟩
  ·show 1≤(numT i).length
   rw [← sg_len]
   cases i with
   | ofNat m =>
    have e:sg (numT (Int.ofNat m))=digs m:=sg_pos m
    rw [e]
    exact List.length_pos_iff.mpr (digs_ne m)
   | negSucc k=>rw [sg_neg]; simp
  ·cases i with
   | ofNat m =>
    have e:sg (numT (Int.ofNat m))=digs m:=sg_pos m
    have hc':c∈sg (numT (Int.ofNat m)):=hc
    rw [e] at hc'
    exact .inr (.inl (digs_all m c hc'))
   | negSucc k =>
    have hc':c∈sg (numT (Int.negSucc k)):=hc
    rw [sg_neg] at hc'
    rcases List.mem_cons.mp hc' with hc' | hc'
    ·exact .inl hc'
    ·exact .inr (.inl (digs_all _ c hc'))
theorem join_mem {sep:Str} {c:Nat}:∀ {parts:List Str},c∈sg (Str.join sep parts)→c∈sg sep∨∃ p∈parts,c∈sg p
 | [],h=>by
  have h':c∈([]:List Nat):=h
  cases h'
 | [p],h=>.inr ⟨p,List.mem_singleton.mpr rfl,h⟩
 | p :: q :: r,h=>by
  rw [sg_join2] at h
  rcases List.mem_append.mp h with h | h
  ·exact .inr ⟨p,List.mem_cons_self ..,h⟩
  ·rcases List.mem_append.mp h with h | h
   ·exact .inl h
   ·rcases join_mem h with h | ⟨z,hz,h⟩
    ·exact .inl h
    ·exact .inr ⟨z,List.mem_cons_of_mem _ hz,h⟩
theorem join_len {sep:Str} {parts:List Str} {B:Nat} (h:∀ p∈parts,p.length≤B):(Str.join sep parts).length≤parts.length * B + parts.length * sep.length :=
 Nat.le_trans (StrLaws.join_length_le sep parts) (Nat.add_le_add_right (StrLaws.sumLen_le parts h) _)
noncomputable abbrev DOkD (d:Dat):Prop:=DOk d.1 d.2
theorem sp_sg:sg (" ":Str)=[32]:=by decide +kernel
theorem sc_sg:sg ("; ":Str)=[59,32]:=by decide +kernel
theorem wtx_ok {d:Dat} (h:DOkD d):∀ p∈wtx d,1≤p.length∧p.length≤61∧∀ c∈sg p,c=45∨(48≤c∧c≤57)∨(97≤c∧c≤122):=by
 intro p hp
 obtain ⟨w,hw,rfl⟩:=List.mem_map.mp hp
 exact ok_signs (h.ok w hw)
theorem wtx_len {d:Dat} (h:DOkD d):1≤(wtx d).length∧(wtx d).length≤7:=by
 obtain ⟨h1,h2⟩:=h.len
 unfold wtx
 rw [List.length_map]
 rw [List.length_append] at h2 ⊢
 lia
theorem dtx_split {d:Dat} (h:DOkD d):Txt.split (dtx d) " "=wtx d:=by
 refine split_join (c:=32) (o:=0) (by rw [sp_sg]; rfl) (fun j hj=>?_) (by decide +kernel) (fun e=>?_) fun p hp hc=>?_
 ·rw [sp_sg] at hj
  cases j with
  | zero=>rfl
  | succ j=>simp at hj
 ·have:=(wtx_len h).1
  rw [e] at this
  simp at this
 ·have:=(wtx_ok h p hp).2.2 32 hc
  lia
theorem dtx_signs {d:Dat} (h:DOkD d):∀ c∈sg (dtx d),c=32∨c=45∨(48≤c∧c≤57)∨(97≤c∧c≤122):=by
 intro c hc
 rcases join_mem hc with hc | ⟨p,hp,hc⟩
 ·rw [sp_sg] at hc
  exact .inl (List.mem_singleton.mp hc)
 ·exact .inr ((wtx_ok h p hp).2.2 c hc)
theorem dtx_len {d:Dat} (h:DOkD d):(dtx d).length≤500:=by
 have h1:=join_len (sep:=" ") fun p hp=>(wtx_ok h p hp).2.1
 have h2:=(wtx_len h).2
 have h3:(" ":Str).length=1:=rfl
 rw [h3] at h1
 unfold dtx
 lia
theorem dtx_head {d:Dat} (h:DOkD d):(sg (dtx d)).head?≠some 105:=by
 obtain ⟨k,sh,rest,e,h2,h3⟩:=h.d
 have hk:=nam_kinds _ (sh_cases h2)
 obtain ⟨l1,_,_⟩:=nam_signs hk.1
 have hne:sg k≠[]:=fun z=>by have:=congrArg List.length z; rw [sg_len] at this; simp at this; have:1≤k.length:=l1; lia
 obtain ⟨c,r,ec⟩:=List.exists_cons_of_ne_nil hne
 have hc:c≠105:=fun z=>hk.2.2 (by show (sg k).head?=_; rw [ec,z]; rfl)
 have:∃ r',sg (dtx d)=c :: r':=by
  unfold dtx wtx
  rw [e]
  show ∃ r',sg (Str.join " " (k :: (rest ++ d.2).map Wd.t))=c :: r'
  cases (rest ++ d.2).map Wd.t with
  | nil=>exact ⟨r,ec⟩
  | cons q z=>rw [sg_join2,ec]; exact ⟨_,rfl⟩
 obtain ⟨r',e'⟩:=this
 rw [e']
 intro z
 exact hc (Option.some.inj z)
theorem htx_split {ds:List Dat} (h:∀ d∈ds,DOkD d) (hne:ds≠[]):htx ds=Str.join "; " (ds.map dtx)∧Txt.split (htx ds) "; "=ds.map dtx:=by
 have e:htx ds=Str.join "; " (ds.map dtx):=by
  unfold htx
  rw [if_neg]
  intro z
  exact hne (List.isEmpty_iff.mp z)
 refine ⟨e,?_⟩
 rw [e]
 refine split_join (c:=59) (o:=0) (by rw [sc_sg]; rfl) (fun j hj=>?_) (by decide +kernel) (by simpa using hne) fun p hp hc=>?_
 ·rw [sc_sg] at hj
  match j,hj with
  | 0,_=>rfl
  | 1,hj=>simp at hj
  | j + 2,hj=>simp at hj
 ·obtain ⟨d,hd,rfl⟩:=List.mem_map.mp hp
  have:=dtx_signs (h d hd) 59 hc
  lia
theorem idle_sg:sg ("idle":Str)=[105,100,108,101]:=by decide +kernel
theorem htx_not {ds:List Dat} (h:∀ d∈ds,DOkD d) (hne:ds≠[]):htx ds≠"idle":=by
 intro e
 rw [(htx_split h hne).1] at e
 cases ds with
 | nil=>exact hne rfl
 | cons d ds =>
  have h1:=dtx_head (h d (List.mem_cons_self ..))
  have h2:=congrArg sg e
  rw [idle_sg] at h2
  cases ds with
  | nil =>
   have h3:sg (dtx d)=[105,100,108,101]:=h2
   rw [h3] at h1
   exact h1 rfl
  | cons d2 ds =>
   rw [List.map_cons,List.map_cons,sg_join2] at h2
   cases e3:sg (dtx d) with
   | nil =>
    have:=wtx_len (h d (List.mem_cons_self ..))
    obtain ⟨k,sh,rest,ee,_,_⟩:=(h d (List.mem_cons_self ..)).d
    rw [e3,List.nil_append,sc_sg] at h2
    simp at h2
   | cons c r =>
    rw [e3] at h1 h2
    have:c=105:=by
     have:=List.cons.inj h2
     exact this.1
    exact h1 (by rw [this]; rfl)
theorem htx_len {ds:List Dat} (h:∀ d∈ds,DOkD d) (h40:ds.length≤40):(htx ds).length≤20100:=by
 cases ds with
 | nil=>show ("idle":Str).length≤20100; exact (by decide:4≤20100)
 | cons d ds =>
  rw [(htx_split h (by simp)).1]
  have h1:=join_len (sep:="; ") (parts:=(d :: ds).map dtx) (B:=500) fun p hp=>by
   obtain ⟨d',hd,rfl⟩:=List.mem_map.mp hp
   exact dtx_len (h d' hd)
  have h3:("; ":Str).length=2:=rfl
  rw [h3,List.length_map] at h1
  lia
end Own
set_option Elab.async false
set_option linter.all false
set_option maxRecDepth 100000
set_option maxHeartbeats 4100000
namespace L2
open PySem
theorem digs_more:∀ (cs:List Nat),(∀ c∈cs,48≤c∧c≤57)→∀ m,0 < m→∃ m',0 < m'∧digs m ++ cs=digs m'∧m' < (m + 1) * 10 ^ cs.length
 | [],_,m,h=>⟨m,h,List.append_nil _,by rw [List.length_nil,Nat.pow_zero,Nat.mul_one]; exact Nat.lt_succ_self m⟩
 | d :: r,hc,m,h=>by
  obtain ⟨d1,d2⟩:=hc d (List.mem_cons_self ..)
  have e:digs (10 * m + (d - 48))=digs m ++ [d]:=by
   rw [digs_ge (by lia)]
   have e1:(10 * m + (d - 48)) / 10=m:=by lia
   have e2:48 + (10 * m + (d - 48)) % 10=d:=by lia
   rw [e1,e2]
  obtain ⟨m',h1,h2,h3⟩:=digs_more r (fun c h=>hc c (List.mem_cons_of_mem _ h)) (10 * m + (d - 48)) (by lia)
  refine ⟨m',h1,?_,Nat.lt_of_lt_of_le h3 ?_⟩
  ·rw [← h2,e,List.append_assoc]; rfl
  ·rw [List.length_cons,Nat.pow_succ,Nat.mul_comm (10 ^ r.length) 10,← Nat.mul_assoc]
   exact Nat.mul_le_mul_right _ (by lia)
theorem digs_of {cs:List Nat} (hc:∀ c∈cs,48≤c∧c≤57) (hn:cs≠[]) (h0:cs.head?≠some 48):∃ m,0 < m∧cs=digs m∧m < 10 ^ cs.length:=by
 cases cs with
 | nil=>exact absurd rfl hn
 | cons d r =>
  obtain ⟨d1,d2⟩:=hc d (List.mem_cons_self ..)
  have d3:d≠48:=fun e=>h0 (by rw [e]; rfl)
  have e:digs (d - 48)=[d]:=by
   rw [digs_lt (by lia)]
   have:48 + (d - 48)=d:=by lia
   rw [this]
  obtain ⟨m',h1,h2,h3⟩:=digs_more r (fun c h=>hc c (List.mem_cons_of_mem _ h)) (d - 48) (by lia)
  refine ⟨m',h1,?_,Nat.lt_of_lt_of_le h3 ?_⟩
  ·rw [← h2,e]; rfl
  ·rw [List.length_cons,Nat.pow_succ,Nat.mul_comm (10 ^ r.length) 10]
   exact Nat.mul_le_mul_right _ (by lia)
theorem sg_eq {x y:Str} (h:sg x=sg y):x=y:=by
 obtain ⟨⟨a⟩⟩:=x
 obtain ⟨⟨b⟩⟩:=y
 have h:a=b:=h
 rw [h]
theorem made_fig {z:Str} {m:Int} (h:madeOf z FIG m=true):(∀ c∈sg z,48≤c∧c≤57)∧sg z≠[]∧((sg z).length:Int)≤m:=by
 unfold madeOf at h
 rw [Bool.and_eq_true,Bool.and_eq_true,decide_eq_true_eq,decide_eq_true_eq,List.all_eq_true,← sg_len] at h
 obtain ⟨⟨h1,h2⟩,h3⟩:=h
 refine ⟨fun c hc=>(fig_mem c).mp (of_decide_eq_true (h3 c hc)),fun e=>?_,h2⟩
 rw [e] at h1
 exact absurd h1 (by decide)
theorem isNum_back {z:Str} (h:isNum z=true):∃ i:Int,i.natAbs < 10 ^ 60∧z=numT i:=by
 unfold isNum at h
 rw [Bool.and_eq_true] at h
 obtain ⟨hm,hz⟩:=h
 by_cases c0:z="0"
 ·exact ⟨0,by decide,c0⟩
 rw [decide_eq_false c0,Bool.false_or,Bool.not_eq_true',sw_nought,decide_eq_false_iff_not] at hz
 obtain ⟨f1,f2,f3⟩:=made_fig hm
 obtain ⟨m,m0,me,mb⟩:=digs_of f1 f2 hz
 have mb':m < 10 ^ 60:=Nat.lt_of_lt_of_le mb (Nat.pow_le_pow_right (by decide) (by lia))
 by_cases cm:Txt.startswith z "-"=true
 ·have ez:figT z=Txt.slice z (some 1) none:=by unfold figT; rw [if_pos cm]
  rw [sw_minus,decide_eq_true_eq] at cm
  cases e:sg z with
  | nil=>rw [e] at cm; cases cm
  | cons d r =>
   rw [e] at cm
   have ed:d=45:=Option.some.inj cm
   have hl:1≤z.length:=by rw [← sg_len,e]; exact Nat.succ_le_succ (Nat.zero_le _)
   rw [ez,slice_one hl,e] at me
   obtain ⟨k,rfl⟩:∃ k,m=k + 1:=⟨m - 1,by lia⟩
   refine ⟨Int.negSucc k,mb',sg_eq ?_⟩
   rw [sg_neg,e,ed,← me]
   rfl
 ·have ez:figT z=z:=by unfold figT; rw [if_neg cm]
  rw [ez] at me
  exact ⟨(m:Int),mb',sg_eq (by rw [sg_pos,me])⟩
theorem join_parts {x sep:Str} (hs:1≤sep.length):∀ (cuts:List Nat) (a f:Nat),a≤x.length→StrLaws.ChainG x sep x.length a cuts f→sg (Str.join sep (StrLaws.partsFrom x sep.length a cuts))=(sg x).drop a
 | [],a,f,ha,_=>by
  show sg (Builtin.Str.strSub x a x.length)=_
  rw [sg_sub]
  refine List.take_of_length_le ?_
  rw [List.length_drop,sg_len]
  exact Nat.le_refl _
 | c :: r,a,f,ha,h=>by
  obtain ⟨h1,h2,_,h4⟩:=h
  have hc:c + sep.length≤x.length:=h2.1
  obtain ⟨p,ps,e⟩:=StrLaws.partsFrom_ne x sep.length (c + sep.length) r
  have ih:=join_parts hs r (c + sep.length) f hc h4
  show sg (Str.join sep (Builtin.Str.strSub x a c :: StrLaws.partsFrom x sep.length (c + sep.length) r))=_
  rw [e] at ih ⊢
  rw [sg_join2,ih,sg_sub]
  have e2:=(at_iff hs).mp h2
  rw [← e2,← List.drop_drop,List.take_append_drop]
  have e3:(sg x).drop c=((sg x).drop a).drop (c - a):=by rw [List.drop_drop]; congr 1; lia
  rw [e3,List.take_append_drop]
theorem join_split (x:Str) {sep:Str} (hs:1≤sep.length):Str.join sep (Txt.split x sep)=x:=by
 obtain ⟨f,hc,hn⟩:=StrLaws.occ_tight x sep hs
 have key:=join_parts hs _ 0 f (Nat.zero_le _) hc
 rw [List.drop_zero] at key
 unfold Txt.split
 split
 ·rfl
 ·split
  ·rfl
  ·rw [StrLaws.partsBetween_eq]
   exact sg_inj key
end L2
namespace Own
open PySem L2
theorem fits_back:∀ {ws ks:List Str},fitsT ws ks=true→∃ us:List Wd,FitsW us ks∧ws=us.map Wd.t
 | [],[],_=>⟨[],trivial,rfl⟩
 | [],k :: ks,h=>by
  unfold fitsT at h
  rw [Bool.and_eq_true,decide_eq_true_eq] at h
  cases h.1
 | w :: ws,[],h=>by
  unfold fitsT at h
  rw [Bool.and_eq_true,decide_eq_true_eq] at h
  cases h.1
 | w :: ws,k :: ks,h=>by
  unfold fitsT at h
  rw [Bool.and_eq_true,decide_eq_true_eq,List.zip_cons_cons,List.all_cons,Bool.and_eq_true] at h
  obtain ⟨h1,h2,h3⟩:=h
  obtain ⟨us,g1,g2⟩:=fits_back (ws:=ws) (ks:=ks) (by
   unfold fitsT
   rw [Bool.and_eq_true,decide_eq_true_eq]
   exact ⟨Nat.succ.inj h1,h3⟩)
  by_cases c:k="number"
  ·have h2:(if k="number" then isNum w else isNam w)=true:=h2
   rw [if_pos c] at h2
   obtain ⟨i,i1,i2⟩:=isNum_back h2
   refine ⟨.n i :: us,⟨?_,g1⟩,by rw [List.map_cons,g2,i2]; rfl⟩
   rw [if_pos c]
   exact ⟨i,rfl,i1⟩
  ·have h2:(if k="number" then isNum w else isNam w)=true:=h2
   rw [if_neg c] at h2
   refine ⟨.s w :: us,⟨?_,g1⟩,by rw [List.map_cons,g2]; rfl⟩
   rw [if_neg c]
   exact ⟨w,rfl,h2⟩
theorem isDeed_back {z:Str} (h:isDeedT z=true):∃ d:Dat,DOkD d∧z=dtx d:=by
 unfold isDeedT at h
 have hj:=join_split z (sep:=" ") (by decide)
 cases e:Txt.split z " " with
 | nil=>exact absurd e (split_ne z " ")
 | cons w r =>
  rw [e] at h hj
  dsimp only at h
  cases ea:atTab SH w with
  | none=>rw [ea] at h; cases h
  | some sh =>
   rw [ea] at h
   dsimp only at h
   rw [Bool.and_eq_true] at h
   obtain ⟨us,u1,u2⟩:=fits_back h.1
   have hg:=h.2
   obtain ⟨g,g1,g2⟩:∃ g:List Wd,(g=[]∨Ex_2_3 (fun w rest=>g=.s w :: rest) (fun w rest=>(w="when"∨w="unless")) (fun w rest=>FitsW rest ["name","number"]))∧r.drop sh.length=g.map Wd.t:=by
    cases e2:r.drop sh.length with
    | nil=>exact ⟨[],.inl rfl,rfl⟩
    | cons v q =>
     rw [e2] at hg
     have hg:((decide (v="when") || decide (v="unless")) && fitsT q ["name","number"])=true:=hg
     rw [Bool.and_eq_true,Bool.or_eq_true,decide_eq_true_eq,decide_eq_true_eq] at hg
     obtain ⟨vs,v1,v2⟩:=fits_back hg.2
     exact ⟨.s v :: vs,.inr ⟨v,vs,rfl,hg.1,v1⟩,by rw [List.map_cons,v2]; rfl⟩
   refine ⟨(.s w :: us,g),⟨⟨w,sh,us,rfl,ea,u1⟩,g1⟩,?_⟩
   rw [← hj]
   unfold dtx wtx
   have e3:w :: r=((.s w :: us) ++ g).map Wd.t:=by
    rw [List.map_append,List.map_cons,← g2,← u2,List.cons_append,List.take_append_drop]
    rfl
   rw [e3]
theorem isHand_back {z:Str} (h:isHandT z=true):∃ ds:List Dat,(∀ d∈ds,DOkD d)∧z=htx ds:=by
 unfold isHandT at h
 rw [Bool.or_eq_true,decide_eq_true_eq] at h
 rcases h with h | h
 ·exact ⟨[],fun d hd=>(nomatch hd),by rw [h]; rfl⟩
 ·have hj:=join_split z (sep:="; ") (by decide)
  have all:∀ l:List Str,l.all isDeedT=true→∃ ds:List Dat,(∀ d∈ds,DOkD d)∧l=ds.map dtx:=fun l=>by
   induction l with
   | nil=>intro _; exact ⟨[],fun d hd=>(nomatch hd),rfl⟩
   | cons y l ih =>
    intro hl
    rw [List.all_cons,Bool.and_eq_true] at hl
    obtain ⟨d,d1,d2⟩:=isDeed_back hl.1
    obtain ⟨ds,e1,e2⟩:=ih hl.2
    refine ⟨d :: ds,fun x hx=>?_,by rw [List.map_cons,← d2,← e2]⟩
    rcases List.mem_cons.mp hx with hx | hx
    ·rw [hx]; exact d1
    ·exact e1 x hx
  obtain ⟨ds,e1,e2⟩:=all _ h
  refine ⟨ds,e1,?_⟩
  have ne:ds≠[]:=fun e=>split_ne z "; " (by rw [e2,e]; rfl)
  rw [(htx_split e1 ne).1,← e2,hj]
theorem text_back {z:Str} (h:(Txt.split z " | ").all isHandT=true):∃ hs:List (List Dat),hs≠[]∧(∀ ds∈hs,∀ d∈ds,DOkD d)∧Txt.split z " | "=hs.map htx∧z=ptx hs:=by
 have hj:=join_split z (sep:=" | ") (by decide)
 have all:∀ l:List Str,l.all isHandT=true→∃ hs:List (List Dat),(∀ ds∈hs,∀ d∈ds,DOkD d)∧l=hs.map htx:=fun l=>by
  induction l with
  | nil=>intro _; exact ⟨[],fun d hd=>(nomatch hd),rfl⟩
  | cons y l ih =>
   intro hl
   rw [List.all_cons,Bool.and_eq_true] at hl
   obtain ⟨d,d1,d2⟩:=isHand_back hl.1
   obtain ⟨ds,e1,e2⟩:=ih hl.2
   refine ⟨d :: ds,fun x hx=>?_,by rw [List.map_cons,← d2,← e2]⟩
   rcases List.mem_cons.mp hx with hx | hx
   ·rw [hx]; exact d1
   ·exact e1 x hx
 obtain ⟨hs,e1,e2⟩:=all _ h
 refine ⟨hs,fun e=>split_ne z " | " (by rw [e2,e]; rfl),e1,e2,?_⟩
 unfold ptx
 rw [← e2,hj]
noncomputable def plainT (ws:List Str):Bool:=match ws with
 | []=>false
 | w :: r=>match atTab SH w with
  | none=>false
  | some sh=>fitsT r sh
noncomputable def deedW (ws:List Str):Bool:=match ws with
 | []=>false
 | w :: r=>match atTab SH w with
  | none=>false
  | some sh=>fitsT (r.take sh.length) sh && isGuardT (r.drop sh.length)
theorem isDeed_W (z:Str):isDeedT z=deedW (Txt.split z " "):=rfl
theorem fits_len {ws ks:List Str} (h:fitsT ws ks=true):ws.length=ks.length:=by
 unfold fitsT at h
 rw [Bool.and_eq_true,decide_eq_true_eq] at h
 exact h.1
theorem fits_two (q:List Str):fitsT q ["name","number"]=true ↔ Ex_2_3 (fun (x n:Str)=>q=[x,n]) (fun x n=>isNam x=true) (fun x n=>isNum n=true):=by
 have nn:¬ (("name":Str)="number"):=by decide +kernel
 constructor
 ·intro h
  have hl:=fits_len h
  match q,hl,h with
  | [x,n],_,h =>
   unfold fitsT at h
   rw [Bool.and_eq_true,List.zip_cons_cons,List.zip_cons_cons,List.all_cons,List.all_cons,Bool.and_eq_true,Bool.and_eq_true] at h
   obtain ⟨_,h1,h2,_⟩:=h
   have h1:(if ("name":Str)="number" then isNum x else isNam x)=true:=h1
   have h2:(if ("number":Str)="number" then isNum n else isNam n)=true:=h2
   rw [if_neg nn] at h1
   rw [if_pos rfl] at h2
   exact ⟨x,n,rfl,h1,h2⟩
 ·rintro ⟨x,n,rfl,h1,h2⟩
  unfold fitsT
  rw [Bool.and_eq_true,List.zip_cons_cons,List.zip_cons_cons,List.all_cons,List.all_cons,Bool.and_eq_true,Bool.and_eq_true]
  refine ⟨rfl,?_,?_,rfl⟩
  ·show (if ("name":Str)="number" then isNum x else isNam x)=true
   rw [if_neg nn]; exact h1
  ·show (if ("number":Str)="number" then isNum n else isNam n)=true
   rw [if_pos rfl]; exact h2
theorem deed_iff (ws:List Str):deedW ws=true ↔ plainT ws=true∨Ex_4_5 (fun (a:List Str) (v x n:Str)=>ws=a ++ [v,x,n]) (fun a v x n=>plainT a=true) (fun a v x n=>(v="when"∨v="unless")) (fun a v x n=>isNam x=true) (fun a v x n=>isNum n=true):=by
 constructor
 ·intro h
  cases ws with
  | nil=>cases h
  | cons w r =>
   unfold deedW at h
   dsimp only at h
   cases ea:atTab SH w with
   | none=>rw [ea] at h; cases h
   | some sh =>
    rw [ea] at h
    dsimp only at h
    rw [Bool.and_eq_true] at h
    obtain ⟨h1,h2⟩:=h
    cases e2:r.drop sh.length with
    | nil =>
     left
     unfold plainT
     dsimp only
     rw [ea]
     dsimp only
     have e3:=List.take_append_drop sh.length r
     rw [e2,List.append_nil] at e3
     rw [← e3]; exact h1
    | cons v q =>
     right
     rw [e2] at h2
     have h2:((decide (v="when") || decide (v="unless")) && fitsT q ["name","number"])=true:=h2
     rw [Bool.and_eq_true,Bool.or_eq_true,decide_eq_true_eq,decide_eq_true_eq] at h2
     obtain ⟨x,n,e4,hx,hn⟩:=(fits_two q).mp h2.2
     refine ⟨w :: r.take sh.length,v,x,n,?_,?_,h2.1,hx,hn⟩
     ·rw [List.cons_append,← e4,← e2,List.take_append_drop]
     ·unfold plainT
      dsimp only
      rw [ea]
      exact h1
 ·rintro (h | ⟨a,v,x,n,rfl,h,hv,hx,hn⟩)
  ·cases ws with
   | nil=>cases h
   | cons w r =>
    unfold plainT at h
    unfold deedW
    dsimp only at h ⊢
    cases ea:atTab SH w with
    | none=>rw [ea] at h; cases h
    | some sh =>
     rw [ea] at h
     dsimp only at h ⊢
     have hl:=fits_len h
     rw [List.take_of_length_le (by lia),List.drop_of_length_le (by lia),h]
     rfl
  ·cases a with
   | nil=>cases h
   | cons w r =>
    unfold plainT at h
    unfold deedW
    rw [List.cons_append]
    dsimp only at h ⊢
    cases ea:atTab SH w with
    | none=>rw [ea] at h; cases h
    | some sh =>
     rw [ea] at h
     dsimp only at h ⊢
     have hl:=fits_len h
     rw [← hl,List.take_left,List.drop_left,h,Bool.true_and]
     show ((decide (v="when") || decide (v="unless")) && fitsT [x,n] ["name","number"])=true
     rw [(fits_two [x,n]).mpr ⟨x,n,rfl,hx,hn⟩,Bool.and_true,Bool.or_eq_true,decide_eq_true_eq,decide_eq_true_eq]
     exact hv
end Own
set_option Elab.async false
set_option linter.all false
set_option maxRecDepth 100000
set_option maxHeartbeats 4100000
namespace Own
open PySem L2
noncomputable def plainL (ws:List Str):Bool :=
 if ws=[("fence":Str)]∨ws=[("bar":Str)] then true else
 match ws with
 | [w,x,y]=>if w="put" then isNam x && isNum y else if w="get" then isNam x && isNam y else false
 | [w,x,y,z]=>if w="swap" then isNam x && isNam y && isNum z else false
 | _=>false
theorem fits_nil (r:List Str):fitsT r []=decide (r=[]):=by
 cases r with
 | nil=>rfl
 | cons x r=>rw [decide_eq_false (fun e=>nomatch e)]; rfl
theorem fits_cons (w k:Str) (ws ks:List Str):fitsT (w :: ws) (k :: ks)=((if k="number" then isNum w else isNam w) && fitsT ws ks):=by
 unfold fitsT
 rw [List.zip_cons_cons,List.all_cons,List.length_cons,List.length_cons]
 have e:decide (ws.length + 1=ks.length + 1)=decide (ws.length=ks.length):=decide_eq_decide.mpr (by lia)
 rw [e]
 show (decide (ws.length=ks.length) && ((if k="number" then isNum w else isNam w) && _))=_
 rw [← Bool.and_assoc,Bool.and_comm (decide (ws.length=ks.length)),Bool.and_assoc]
theorem fits_short (k:Str) (ks:List Str):fitsT [] (k :: ks)=false:=by
 unfold fitsT
 rw [decide_eq_false (by simp),Bool.false_and]
theorem plain_eq (ws:List Str):plainL ws=plainT ws:=by
 have nn:¬ (("name":Str)="number"):=by decide +kernel
 have a1:atTab SH "put"=some ([("name":Str),("number":Str)]:List Str):=by decide +kernel
 have a2:atTab SH "get"=some ([("name":Str),("name":Str)]:List Str):=by decide +kernel
 have a3:atTab SH "swap"=some ([("name":Str),("name":Str),("number":Str)]:List Str):=by decide +kernel
 have a4:atTab SH "fence"=some []:=by decide +kernel
 have a5:atTab SH "bar"=some []:=by decide +kernel
 have d1:¬ (("put":Str)="fence"∨("put":Str)="bar"∨("put":Str)="get"∨("put":Str)="swap"):=by decide +kernel
 have d2:¬ (("get":Str)="fence"∨("get":Str)="bar"∨("get":Str)="put"∨("get":Str)="swap"):=by decide +kernel
 have d3:¬ (("swap":Str)="fence"∨("swap":Str)="bar"∨("swap":Str)="put"∨("swap":Str)="get"):=by decide +kernel
 have d4:¬ (("fence":Str)="bar"∨("fence":Str)="put"∨("fence":Str)="get"∨("fence":Str)="swap"):=by decide +kernel
 have d5:¬ (("bar":Str)="fence"∨("bar":Str)="put"∨("bar":Str)="get"∨("bar":Str)="swap"):=by decide +kernel
 simp only [not_or] at d1 d2 d3 d4 d5
 rcases ws with _ | ⟨w,r⟩
 ·simp [plainL,plainT]
 unfold plainL plainT
 by_cases c1:w="put"
 ·subst c1
  rcases r with _ | ⟨x,_ | ⟨y,_ | ⟨z,_ | ⟨u,r⟩⟩⟩⟩ <;> simp [a1,fits_cons,fits_nil,fits_short,nn,d1]
 by_cases c2:w="get"
 ·subst c2
  rcases r with _ | ⟨x,_ | ⟨y,_ | ⟨z,_ | ⟨u,r⟩⟩⟩⟩ <;> simp [a2,fits_cons,fits_nil,fits_short,nn,d2]
 by_cases c3:w="swap"
 ·subst c3
  rcases r with _ | ⟨x,_ | ⟨y,_ | ⟨z,_ | ⟨u,r⟩⟩⟩⟩ <;> simp [a3,fits_cons,fits_nil,fits_short,nn,d3,Bool.and_assoc]
 by_cases c4:w="fence"
 ·subst c4
  rcases r with _ | ⟨x,_ | ⟨y,_ | ⟨z,_ | ⟨u,r⟩⟩⟩⟩ <;> simp [a4,fits_cons,fits_nil,fits_short,nn,d4]
 by_cases c5:w="bar"
 ·subst c5
  rcases r with _ | ⟨x,_ | ⟨y,_ | ⟨z,_ | ⟨u,r⟩⟩⟩⟩ <;> simp [a5,fits_cons,fits_nil,fits_short,nn,d5]
 have a6:atTab SH w=none:=by
  cases e:atTab SH w with
  | none=>rfl
  | some sh =>
   have:=sh_cases e
   unfold SH at this
   simp [c1,c2,c3,c4,c5] at this
 rcases r with _ | ⟨x,_ | ⟨y,_ | ⟨z,_ | ⟨u,r⟩⟩⟩⟩ <;> simp [a6,c1,c2,c3,c4,c5]
theorem last3 (ws:List Str) (h:3≤ws.length):Ex_4_1 (fun (a:List Str) (v x n:Str)=>ws=a ++ [v,x,n]):=by
 have e:=List.take_append_drop (ws.length - 3) ws
 have hl:(ws.drop (ws.length - 3)).length=3:=by rw [List.length_drop]; lia
 match hd:ws.drop (ws.length - 3),hl with
 | [v,x,n],_=>exact ⟨ws.take (ws.length - 3),v,x,n,by rw [← hd,e]⟩
noncomputable def deedL (ws:List Str):Bool :=
 (decide (3 < ws.length) && (decide (ws.getD (ws.length - 3) ""="when") || decide (ws.getD (ws.length - 3) ""="unless")) && (isNam (ws.getD (ws.length - 2) "") && isNum (ws.getD (ws.length - 1) "") && plainL (ws.take (ws.length - 3)))) || plainL ws
theorem deedL_at (a:List Str) (v x n:Str):(a ++ [v,x,n]).getD ((a ++ [v,x,n]).length - 3) ""=v∧(a ++ [v,x,n]).getD ((a ++ [v,x,n]).length - 2) ""=x∧(a ++ [v,x,n]).getD ((a ++ [v,x,n]).length - 1) ""=n∧(a ++ [v,x,n]).take ((a ++ [v,x,n]).length - 3)=a:=by
 have hl:(a ++ [v,x,n]).length=a.length + 3:=by rw [List.length_append]; rfl
 have e1:(a ++ [v,x,n]).length - 3=a.length:=by lia
 have e2:(a ++ [v,x,n]).length - 2=a.length + 1:=by lia
 have e3:(a ++ [v,x,n]).length - 1=a.length + 2:=by lia
 rw [e1,e2,e3]
 refine ⟨?_,?_,?_,List.take_left⟩
 ·rw [List.getD_eq_getElem?_getD,List.getElem?_append_right (Nat.le_refl _),Nat.sub_self]; rfl
 ·rw [List.getD_eq_getElem?_getD,List.getElem?_append_right (by lia),Nat.add_sub_cancel_left]; rfl
 ·rw [List.getD_eq_getElem?_getD,List.getElem?_append_right (by lia),Nat.add_sub_cancel_left]; rfl
theorem deedL_eq (ws:List Str):deedL ws=deedW ws:=by
 rw [Bool.eq_iff_iff,deed_iff]
 unfold deedL
 rw [Bool.or_eq_true,plain_eq ws]
 constructor
 ·rintro (h | h)
  ·rw [Bool.and_eq_true,Bool.and_eq_true,decide_eq_true_eq,Bool.or_eq_true,decide_eq_true_eq,decide_eq_true_eq,Bool.and_eq_true,Bool.and_eq_true] at h
   obtain ⟨⟨hl,hv⟩,⟨hx,hn⟩,hp⟩:=h
   obtain ⟨a,v,x,n,rfl⟩:=last3 ws (by lia)
   obtain ⟨e1,e2,e3,e4⟩:=deedL_at a v x n
   rw [e1] at hv
   rw [e2] at hx
   rw [e3] at hn
   rw [e4,plain_eq] at hp
   exact .inr ⟨a,v,x,n,rfl,hp,hv,hx,hn⟩
  ·exact .inl h
 ·rintro (h | ⟨a,v,x,n,rfl,hp,hv,hx,hn⟩)
  ·exact .inr h
  ·left
   obtain ⟨e1,e2,e3,e4⟩:=deedL_at a v x n
   have ha:1≤a.length:=by
    cases a with
    | nil=>cases hp
    | cons y l=>exact Nat.succ_le_succ (Nat.zero_le _)
   rw [e1,e2,e3,e4,plain_eq,hp,hx,hn,Bool.and_eq_true,Bool.and_eq_true,decide_eq_true_eq,Bool.or_eq_true,decide_eq_true_eq,decide_eq_true_eq]
   refine ⟨⟨?_,hv⟩,rfl⟩
   rw [List.length_append]
   show 3 < a.length + 3
   lia
noncomputable def numL (z:Str):Bool :=
 if (Txt.startswith z "-" && decide (figT z="0"))=true then false else
 madeOf (figT z) FIG 60 && (!Txt.startswith (figT z) "0" || decide (figT z="0"))
theorem numL_eq (z:Str):numL z=isNum z:=by
 have s0:Txt.startswith ("0":Str) "0"=true:=by decide +kernel
 have s1:Txt.startswith ("0":Str) "-"=false:=by decide +kernel
 unfold numL isNum
 by_cases c:Txt.startswith z "-"=true
 ·have hz:z≠"0":=fun e=>by rw [e,s1] at c; cases c
  rw [c,Bool.true_and,decide_eq_false hz,Bool.false_or]
  by_cases h:figT z="0"
  ·rw [decide_eq_true h,if_pos rfl,h,s0,Bool.not_true,Bool.and_false]
  ·rw [decide_eq_false h,if_neg Bool.false_ne_true,Bool.or_false]
 ·have e:figT z=z:=by unfold figT; rw [if_neg c]
  have c':Txt.startswith z "-"=false:=by simpa using c
  rw [c',Bool.false_and,if_neg Bool.false_ne_true,e,Bool.or_comm]
noncomputable def badAt (l:List Str):Option Nat:=l.findIdx? fun z=>!isHandT z
noncomputable def rowsOf (z:Str):Nat:=if z="idle" then 0 else (Txt.split z "; ").length
noncomputable def manyOf (l:List Str):Nat:=(l.map rowsOf).sum
theorem rows_htx {ds:List Dat} (h:∀ d∈ds,DOkD d):rowsOf (htx ds)=ds.length:=by
 unfold rowsOf
 by_cases c:ds=[]
 ·rw [c]
  rw [if_pos (show htx []="idle" from rfl)]
  rfl
 ·rw [if_neg (htx_not h c),(htx_split h c).2,List.length_map]
theorem many_htx {hs:List (List Dat)} (h:∀ ds∈hs,∀ d∈ds,DOkD d):manyOf (hs.map htx)=(hs.map (·.length)).sum:=by
 unfold manyOf
 rw [List.map_map]
 congr 1
 refine List.map_congr_left fun ds hd=>?_
 exact rows_htx (h ds hd)
theorem bad_none {l:List Str} (h:badAt l=none):l.all isHandT=true:=by
 rw [List.all_eq_true]
 intro z hz
 have:=List.findIdx?_eq_none_iff.mp h z hz
 simpa using this
end Own
set_option Elab.async false
set_option linter.all false
set_option maxRecDepth 100000
set_option maxHeartbeats 4100000
namespace L2
open PySem PySem.Spec PyProof.Rows
open StrLaws Builtin Builtin.Str
theorem occ_full (s sub:Str) (hi:Nat):∀ (l:List Nat) (st:Array Nat×Nat),1≤st.1.size→(forIn l st (occBody s sub hi 1)).run.1=st.1
 | [],st,_=>rfl
 | a :: l,st,h=>by
  rw [List.forIn_cons]
  unfold occBody
  rw [if_neg (fun z=>absurd z.1.1.1 (by lia))]
  exact occ_full s sub hi l _ h
theorem occ_one (s sub:Str) (hi lo:Nat):∀ (m cur:Nat),lo≤cur→(∀ k,lo≤k→k < cur→¬ At s sub hi k) →
  ((forIn (List.range' cur m) ((#[]:Array Nat),lo) (occBody s sub hi 1)).run.1=#[]∧∀ k,lo≤k→k < cur + m→¬ At s sub hi k) ∨
  ∃ k,(forIn (List.range' cur m) ((#[]:Array Nat),lo) (occBody s sub hi 1)).run.1=#[k]∧lo≤k∧At s sub hi k∧∀ j,lo≤j→j < k→¬ At s sub hi j
 | 0,cur,_,hn=>.inl ⟨rfl,hn⟩
 | m + 1,cur,hc,hn=>by
  rw [List.range'_succ,List.forIn_cons]
  by_cases hA:At s sub hi cur
  ·have e:occBody s sub hi 1 cur ((#[]:Array Nat),lo)=pure (ForInStep.yield (#[cur],cur + sub.length)):=by
    unfold occBody
    rw [if_pos ⟨⟨⟨by show 0 < 1; decide,hc⟩,hA.1⟩,hA.2⟩]
    rfl
   rw [e]
   refine .inr ⟨cur,?_,hc,hA,hn⟩
   exact occ_full s sub hi _ (#[cur],cur + sub.length) (Nat.le_refl 1)
  ·have e:occBody s sub hi 1 cur ((#[]:Array Nat),lo)=pure (ForInStep.yield ((#[]:Array Nat),lo)):=by
    unfold occBody
    rw [if_neg fun z=>hA ⟨z.1.2,z.2⟩]
   rw [e]
   have ih:=occ_one s sub hi lo m (cur + 1) (by lia) (fun k h1 h2=>by
    by_cases hk:k < cur
    ·exact hn k h1 hk
    ·have ek:k=cur:=by lia
     rw [ek]; exact hA)
   rcases ih with ⟨i1,i2⟩ | ih
   ·exact .inl ⟨i1,fun k h1 h2=>i2 k h1 (by lia)⟩
   ·exact .inr ih
noncomputable def nextCut:List Nat→Int
 | []=>-1
 | c :: _=>(c:Int)
theorem occ_next {x y:Str} {a f:Nat} {cuts:List Nat} (hw:1≤y.length) (h:ChainG x y x.length a cuts f) (hn:∀ k,f≤k→¬ At x y x.length k) :
  (match occurrences x y a x.length 1 with | k :: _=>(k:Int) | []=>-1)=nextCut cuts:=by
 rw [occ_eq]
 rcases occ_one x y x.length a (x.length + 1 - a) a (Nat.le_refl _) (fun k h1 h2=>by lia) with ⟨e,h0⟩ | ⟨k,e,h1,h2,h3⟩
 ·rw [e]
  cases cuts with
  | nil=>rfl
  | cons c r =>
   obtain ⟨c1,c2,_,_⟩:=h
   have:=c2.1
   exact absurd c2 (h0 c c1 (by lia))
 ·rw [e]
  cases cuts with
  | nil =>
   have ef:f=a:=h
   exact absurd h2 (hn k (by lia))
  | cons c r =>
   obtain ⟨c1,c2,c3,_⟩:=h
   show (k:Int)=(c:Int)
   have n1:¬ k < c:=fun z=>c3 k h1 z h2
   have n2:¬ c < k:=fun z=>h3 c c1 z c2
   lia
theorem find3_next {x y:Str} {a f:Nat} {cuts:List Nat} (hw:1≤y.length) (h:ChainG x y x.length a cuts f) (hn:∀ k,f≤k→¬ At x y x.length k):Txt.find3 x y (a:Int)=nextCut cuts:=by
 have e:fromIndex x.length (a:Int)=a:=by unfold fromIndex; rw [if_neg (by lia)]; lia
 unfold Txt.find3
 rw [e]
 exact occ_next hw h hn
theorem find_next {x y:Str} {f:Nat} {cuts:List Nat} (hw:1≤y.length) (h:ChainG x y x.length 0 cuts f) (hn:∀ k,f≤k→¬ At x y x.length k):Txt.find x y=nextCut cuts:=occ_next hw h hn
theorem split_cuts (x:Str) {y:Str} (hw:1≤y.length) (hk:strKind y=1):Ex_2_3 (fun cuts f=>ChainG x y x.length 0 cuts f) (fun cuts f=>(∀ k,f≤k→¬ At x y x.length k)) (fun cuts f=>Txt.split x y=partsFrom x y.length 0 cuts):=by
 obtain ⟨f,hc,hn⟩:=occ_tight x y hw
 refine ⟨_,f,hc,hn,?_⟩
 unfold Txt.split
 split
 ·rename_i h
  have k1:=kind_one x
  rw [Bool.or_eq_true,decide_eq_true_eq,decide_eq_true_eq,hk] at h
  have hl:x.length < y.length:=by lia
  have e:occurrences x y 0 x.length (x.length + 1)=[]:=by
   cases q:occurrences x y 0 x.length (x.length + 1) with
   | nil=>rfl
   | cons c r =>
    rw [q] at hc
    have:=hc.2.1.1
    lia
  rw [e]
  show [x]=[strSub x 0 x.length]
  rw [sub_whole]
 ·split
  ·rename_i h
   rw [List.isEmpty_iff.mp h]
   show [x]=[strSub x 0 x.length]
   rw [sub_whole]
  ·rw [partsBetween_eq]
theorem chain_le {x y:Str} {a f:Nat}:∀ {cuts:List Nat},ChainG x y x.length a cuts f→∀ c r,cuts=c :: r→a≤c∧c + y.length≤x.length∧ChainG x y x.length (c + y.length) r f
 | _ :: _,h,_,_,rfl=>⟨h.1,h.2.1.1,h.2.2.2⟩
theorem slice_mid {z:Str} {a b:Nat} (h1:a≤b) (h2:b≤z.length):sg (Txt.slice z (some (a:Int)) (some (b:Int)))=((sg z).drop a).take (b - a):=by
 have e:=StrLaws.strSliceIndices_plain (a:=a) (b:=b) (len:=z.length) h1 h2
 have p:=StrLaws.sliced_plain z (a:=a) (b:=b) h1 h2
 unfold Txt.slice
 split
 ·rename_i c
  rw [e,List.length_map,List.length_range] at c
  have c2:b - a=z.length:=by simpa using c
  have c3:a=0:=by lia
  rw [c3,List.drop_zero,List.take_of_length_le (by rw [sg_len]; lia)]
 ·show ((List.filterMap _ _).toArray).toList=_
  rw [p,List.toList_toArray]
theorem slice_sub (x:Str) {a b:Nat} (h1:a≤b) (h2:b≤x.length):Txt.slice x (some (a:Int)) (some (b:Int))=strSub x a b:=sg_inj (by rw [slice_mid h1 h2,sg_sub])
theorem slice_tail (x:Str) {a:Nat} (h2:a≤x.length):Txt.slice x (some (a:Int)) none=strSub x a x.length:=by
 have e:Txt.slice x (some (a:Int)) none=Txt.slice x (some (a:Int)) (some (x.length:Int)):=by
  unfold Txt.slice
  rw [slice_none]
 rw [e]
 exact slice_sub x h2 (Nat.le_refl _)
end L2
set_option Elab.async false
set_option linter.all false
set_option maxRecDepth 100000
set_option maxHeartbeats 4100000
namespace Own
open PySem L2
noncomputable def top (i:Nat):Stmt:=PySem.Challenge.pw_latewrite_k05_texts_refused.main.body.getD i (.Pass ⟨0,0,0,0⟩)
noncomputable abbrev s_guardof:Stmt:=top 1
noncomputable abbrev s_read:Stmt:=top 20
noncomputable abbrev s_shown:Stmt:=top 21
noncomputable abbrev s_showhand:Stmt:=top 22
noncomputable abbrev s_showdeed:Stmt:=top 23
noncomputable abbrev s_ishand:Stmt:=top 24
noncomputable abbrev s_isdeed:Stmt:=top 25
noncomputable abbrev s_deedsize:Stmt:=top 26
noncomputable abbrev s_isguard:Stmt:=top 27
noncomputable abbrev s_fits:Stmt:=top 28
noncomputable abbrev s_isname:Stmt:=top 29
noncomputable abbrev s_isnumber:Stmt:=top 30
noncomputable abbrev s_madeof:Stmt:=top 31
noncomputable abbrev s_readhand:Stmt:=top 32
noncomputable abbrev s_readdeed:Stmt:=top 33
noncomputable abbrev s_Lcellat:Stmt:=top 35
noncomputable abbrev s_Lpart:Stmt:=top 36
noncomputable abbrev s_Lname:Stmt:=top 37
noncomputable abbrev s_Lnumber:Stmt:=top 38
noncomputable abbrev s_Lrow:Stmt:=top 39
noncomputable abbrev s_Lhands:Stmt:=top 40
noncomputable abbrev s_Lodd:Stmt:=top 41
noncomputable abbrev s_Lspoiled:Stmt:=top 42
noncomputable abbrev s_Lisname:Stmt:=top 43
noncomputable abbrev s_Lisnumber:Stmt:=top 44
noncomputable abbrev s_Lparts:Stmt:=top 45
noncomputable abbrev s_Lisdeed:Stmt:=top 46
noncomputable abbrev s_Lisplain:Stmt:=top 47
noncomputable abbrev s_Ljudged:Stmt:=top 48
noncomputable abbrev s_Ltold:Stmt:=top 49
noncomputable abbrev s_Lcaught:Stmt:=top 50
noncomputable abbrev s_law:Stmt:=top 51
noncomputable abbrev s_NoTextinit:Stmt:=inClass (top 4) 0
structure Txt (K:PySem.W.Frag) (mg:Str→Option Value):Prop where
 n_ValueError:mg "ValueError"=none
 n_all:mg "all"=none
 n_bool:mg "bool"=none
 n_enumerate:mg "enumerate"=none
 n_int:mg "int"=none
 n_isinstance:mg "isinstance"=none
 n_len:mg "len"=none
 n_list:mg "list"=none
 n_min:mg "min"=none
 n_range:mg "range"=none
 n_str:mg "str"=none
 n_sum:mg "sum"=none
 n_tuple:mg "tuple"=none
 n_zip:mg "zip"=none
 g_FIGURES:∃ u,mg "FIGURES"=some u∧RelV (.str "0123456789") u
 g_GUARD_SHAPE:∃ a,mg "GUARD_SHAPE"=some (.ref a)∧KTup K a ["name","number"]
 g_GUARD_WORDS:∃ a,mg "GUARD_WORDS"=some (.ref a)∧KTup K a ["when","unless"]
 g_LETTERS:∃ u,mg "LETTERS"=some u∧RelV (.str "abcdefghijklmnopqrstuvwxyz") u
 g_MOST_DEEDS:∃ u,mg "MOST_DEEDS"=some u∧RelV (.int 40) u
 g_MOST_FIGURES:∃ u,mg "MOST_FIGURES"=some u∧RelV (.int 60) u
 g_MOST_HANDS:∃ u,mg "MOST_HANDS"=some u∧RelV (.int 6) u
 g_MOST_LETTERS:∃ u,mg "MOST_LETTERS"=some u∧RelV (.int 8) u
 g_SHAPES:∃ a,mg "SHAPES"=some (.ref a)∧KTab K a [("put",["name","number"]),("get",["name","name"]),("swap",["name","name","number"]),("fence",[]),("bar",[])]
 x_NoText:mg "NoText"=some (.ref (cA K "NoText"))
 xa_NoText:∃ ini,excAny K (cA K "NoText") veB "ValueError.__new__" ini=true
 x_TooGreat:mg "TooGreat"=some (.ref (cA K "TooGreat"))
 xa_TooGreat:∃ ini,excAny K (cA K "TooGreat") veB "ValueError.__new__" ini=true
 x_NoMove:mg "NoMove"=some (.ref (cA K "NoMove"))
 xa_NoMove:∃ ini,excAny K (cA K "NoMove") veB "ValueError.__new__" ini=true
 x_NoRun:mg "NoRun"=some (.ref (cA K "NoRun"))
 xa_NoRun:∃ ini,excAny K (cA K "NoRun") veB "ValueError.__new__" ini=true
 x_NoRow:mg "NoRow"=some (.ref (cA K "NoRow"))
 xa_NoRow:∃ ini,excAny K (cA K "NoRow") veB "ValueError.__new__" ini=true
 x_NoName:mg "NoName"=some (.ref (cA K "NoName"))
 xa_NoName:∃ ini,excAny K (cA K "NoName") veB "ValueError.__new__" ini=true
 x_LateError:mg "LateError"=some (.ref (cA K "LateError"))
 xa_LateError:∃ ini,excAny K (cA K "LateError") veB "ValueError.__new__" ini=true
 xn_TooGreat:excAny K (cA K "TooGreat") veB "ValueError.__new__" none=true
 xp_TooGreat:PySem.W.keepIn K (.ref (cA K "TooGreat"))=true
 xc_NoText:xclsIn K (cA K "NoText")=true
 xc_TooGreat:xclsIn K (cA K "TooGreat")=true
 na_hand:PySem.W.findIn K (.ref (cA K "NoText")) "hand"=some none
 sNN:PySem.W.subIn K (.ref (cA K "NoText")) (.ref (cA K "NoText"))=some true
 sTN:PySem.W.subIn K (.ref (cA K "TooGreat")) (.ref (cA K "NoText"))=some false
 sTT:PySem.W.subIn K (.ref (cA K "TooGreat")) (.ref (cA K "TooGreat"))=some true
 sNL:PySem.W.subIn K (.ref (cA K "NoText")) (.ref (cA K "LateError"))=some true
 sTL:PySem.W.subIn K (.ref (cA K "TooGreat")) (.ref (cA K "LateError"))=some true
 kN:PySem.W.kitAny K (.ref (cA K "NoText")) [.ref (cA K "TooGreat"),.ref (cA K "NoMove"),.ref (cA K "NoRow"),.ref (cA K "NoRun"),.ref (cA K "NoName")]=some false
 kT:PySem.W.kitAny K (.ref (cA K "TooGreat")) [.ref (cA K "NoText"),.ref (cA K "NoMove"),.ref (cA K "NoRow"),.ref (cA K "NoRun"),.ref (cA K "NoName")]=some false
 kNL:PySem.W.kitOne K (.ref (cA K "NoText")) (.ref (cA K "LateError"))=some true
 kNV:PySem.W.kitOne K (.ref (cA K "NoText")) (.type "ValueError")=some true
 kTL:PySem.W.kitOne K (.ref (cA K "TooGreat")) (.ref (cA K "LateError"))=some true
 kTV:PySem.W.kitOne K (.ref (cA K "TooGreat")) (.type "ValueError")=some true
structure Dd where
 a:Addr
 d:Dat
noncomputable def isG (K:PySem.W.Frag) (H:Hp) (gv:V) (g:List Wd):Prop:=(g=[]∧gv=.non)∨(g≠[]∧∃ q,gv=.ref q∧SqT K H q (g.map Wd.v))
structure IsD (K:PySem.W.Frag) (H:Hp) (x:Dd):Prop where
 t:∃ gv,SqT K H x.a (x.d.1.map Wd.v ++ [gv])∧isG K H gv x.d.2
 ok:DOkD x.d
structure IsH (K:PySem.W.Frag) (H:Hp) (a:Addr) (ds:List Dd):Prop where
 l:SqL K H a (ds.map fun x=>V.ref x.a)
 dd:∀ x∈ds,IsD K H x
 n:ds.length≤40
noncomputable abbrev Hands:=List (Addr×List Dd)
structure IsP (K:PySem.W.Frag) (H:Hp) (p:Addr) (hs:Hands):Prop where
 l:SqL K H p (hs.map fun h=>V.ref h.1)
 hh:∀ h∈hs,IsH K H h.1 h.2
 n:hs.length≤6
noncomputable def dat (ds:List Dd):List Dat:=ds.map (·.d)
noncomputable def pdat (hs:Hands):List (List Dat):=hs.map fun h=>dat h.2
section
variable {K:PySem.W.Frag} {H H':Hp}
theorem isG.same {gv:V} {g:List Wd} (s:Same H H') (h:isG K H gv g):isG K H' gv g:=by
 rcases h with h | ⟨h1,q,h2,h3⟩
 ·exact .inl h
 ·exact .inr ⟨h1,q,h2,s.seqT h3⟩
theorem isG.lset {gv:V} {g:List Wd} {l:Addr} {xs ys:List V} (hl:H l=some (.lst xs)) (h:isG K H gv g):isG K (upd H l (.lst ys)) gv g:=by
 rcases h with h | ⟨h1,q,h2,h3⟩
 ·exact .inl h
 ·exact .inr ⟨h1,q,h2,SqT.lset hl h3⟩
theorem IsD.same {x:Dd} (s:Same H H') (h:IsD K H x):IsD K H' x:=by
 obtain ⟨⟨gv,h1,h2⟩,h3⟩:=h
 exact ⟨⟨gv,s.seqT h1,h2.same s⟩,h3⟩
theorem IsD.lset {x:Dd} {l:Addr} {xs ys:List V} (hl:H l=some (.lst xs)) (h:IsD K H x):IsD K (upd H l (.lst ys)) x:=by
 obtain ⟨⟨gv,h1,h2⟩,h3⟩:=h
 exact ⟨⟨gv,SqT.lset hl h1,h2.lset hl⟩,h3⟩
theorem IsH.same {a:Addr} {ds:List Dd} (s:Same H H') (h:IsH K H a ds):IsH K H' a ds:=⟨s.seq h.l,fun x hx=>(h.dd x hx).same s,h.n⟩
theorem IsP.same {p:Addr} {hs:Hands} (s:Same H H') (h:IsP K H p hs):IsP K H' p hs:=⟨s.seq h.l,fun x hx=>(h.hh x hx).same s,h.n⟩
theorem IsH.ok {a:Addr} {ds:List Dd} (h:IsH K H a ds):∀ d∈dat ds,DOkD d:=fun d hd=>by
 obtain ⟨x,hx,rfl⟩:=List.mem_map.mp hd
 exact (h.dd x hx).ok
theorem IsP.ok {p:Addr} {hs:Hands} (h:IsP K H p hs):∀ ds∈pdat hs,∀ d∈ds,DOkD d:=fun ds hd=>by
 obtain ⟨x,hx,rfl⟩:=List.mem_map.mp hd
 exact (h.hh x hx).ok
theorem IsP.n40 {p:Addr} {hs:Hands} (h:IsP K H p hs):∀ ds∈pdat hs,ds.length≤40:=fun ds hd=>by
 obtain ⟨x,hx,rfl⟩:=List.mem_map.mp hd
 show (dat x.2).length≤40
 unfold dat
 rw [List.length_map]
 exact (h.hh x hx).n
theorem refs_get {α:Type} {xs:List α} {f:α→V} {i:Nat} {v:V} (h:(xs.map f)[i]?=some v):∃ x,xs[i]?=some x∧v=f x:=by
 rw [List.getElem?_map] at h
 cases e:xs[i]? with
 | none=>rw [e] at h; cases h
 | some x=>rw [e] at h; exact ⟨x,rfl,(Option.some.inj h).symm⟩
theorem take_map_succ {α β:Type} {f:α→β} {xs:List α} {i:Nat} {x:α} (h:xs[i]?=some x):(xs.take (i + 1)).map f=(xs.take i).map f ++ [f x]:=by
 rw [List.take_add_one,h,List.map_append]; rfl
end
theorem cut_front (ws:List V) (gv:V):cutV (ws ++ [gv]) none (some (-1))=ws:=by
 unfold cutV
 have e1:HT.sIx (ws ++ [gv]).length 0 none=0:=rfl
 have e2:HT.sIx (ws ++ [gv]).length (ws ++ [gv]).length (some (-1))=ws.length:=by
  have e3:HT.sIx (ws ++ [gv]).length (ws ++ [gv]).length (some (-1))=((-1:Int) + ((ws ++ [gv]).length:Int)).toNat:=by unfold HT.sIx; exact if_pos (by decide)
  rw [e3,List.length_append,List.length_singleton]
  lia
 rw [e1,e2,List.drop_zero,Nat.sub_zero,List.take_left]
theorem cut_from (xs:List V) (k:Nat):cutV xs (some (k:Int)) none=xs.drop k:=by
 unfold cutV
 have e1:HT.sIx xs.length 0 (some (k:Int))=min k xs.length:=HT.sIx_nat ..
 have e2:HT.sIx xs.length xs.length none=xs.length:=rfl
 rw [e1,e2]
 by_cases c:k≤xs.length
 ·rw [Nat.min_eq_left c]
  exact List.take_of_length_le (by rw [List.length_drop]; exact Nat.le_refl _)
 ·rw [Nat.min_eq_right (by lia),List.drop_of_length_le (Nat.le_refl _),List.drop_of_length_le (by lia)]
  simp
theorem cut_to (xs:List V) (k:Nat):cutV xs none (some (k:Int))=xs.take k:=by
 unfold cutV
 have e1:HT.sIx xs.length 0 none=0:=rfl
 have e2:HT.sIx xs.length xs.length (some (k:Int))=min k xs.length:=HT.sIx_nat ..
 rw [e1,e2,List.drop_zero,Nat.sub_zero]
 by_cases c:k≤xs.length
 ·rw [Nat.min_eq_left c]
 ·rw [Nat.min_eq_right (by lia),List.take_of_length_le (Nat.le_refl _),List.take_of_length_le (by lia)]
theorem cut_mid (xs:List V) (k:Nat) (h:1≤xs.length):cutV xs (some 1) (some (1 + (k:Int)))=(xs.drop 1).take k:=by
 unfold cutV
 have e0:(1:Int) + (k:Int)=((1 + k:Nat):Int):=by lia
 have e1:HT.sIx xs.length 0 (some 1)=min 1 xs.length:=HT.sIx_nat (k:=1) ..
 have e2:HT.sIx xs.length xs.length (some ((1 + k:Nat):Int))=min (1 + k) xs.length:=HT.sIx_nat ..
 rw [e0,e1,e2,Nat.min_eq_left h]
 by_cases c:1 + k≤xs.length
 ·rw [Nat.min_eq_left c,Nat.add_sub_cancel_left]
 ·rw [Nat.min_eq_right (by lia),List.take_of_length_le (by rw [List.length_drop]; exact Nat.le_refl _),List.take_of_length_le (by rw [List.length_drop]; lia)]
inductive Sp_guardof (K:PySem.W.Frag) (vs:List V) (H:Hp) (Q:VK) (E_:XK):Prop
 | mk (p:Addr) (xs:List V) (gv:V) (h0_:vs=[.ref p]) (h1_:SqT K H p (xs ++ [gv])) (h2_:Q gv H):Sp_guardof K vs H Q E_
noncomputable def sp_guardof (K:PySem.W.Frag):Sp:=Sp_guardof K
inductive Sp_showdeed (K:PySem.W.Frag) (vs:List V) (H:Hp) (Q:VK) (E_:XK):Prop
 | mk (x:Dd) (h0_:vs=[.ref x.a]) (h1_:IsD K H x) (h2_:∀ H',Same H H'→Q (.str (dtx x.d)) H'):Sp_showdeed K vs H Q E_
noncomputable def sp_showdeed (K:PySem.W.Frag):Sp:=Sp_showdeed K
inductive Sp_showhand (K:PySem.W.Frag) (vs:List V) (H:Hp) (Q:VK) (E_:XK):Prop
 | mk (a:Addr) (ds:List Dd) (h0_:vs=[.ref a]) (h1_:IsH K H a ds) (h2_:∀ H',Same H H'→Q (.str (htx (dat ds))) H'):Sp_showhand K vs H Q E_
noncomputable def sp_showhand (K:PySem.W.Frag):Sp:=Sp_showhand K
inductive Sp_shown (K:PySem.W.Frag) (vs:List V) (H:Hp) (Q:VK) (E_:XK):Prop
 | mk (p:Addr) (hs:Hands) (h0_:vs=[.ref p]) (h1_:IsP K H p hs) (h2_:∀ H',Same H H'→Q (.str (ptx (pdat hs))) H'):Sp_shown K vs H Q E_
noncomputable def sp_shown (K:PySem.W.Frag):Sp:=Sp_shown K
inductive Sp_madeof (K:PySem.W.Frag) (vs:List V) (H:Hp) (Q:VK) (E_:XK):Prop
 | mk (z:Str) (s:Str) (m:Int) (h0_:vs=[.str z,.str s,.int m]) (h1_:z.length≤200000) (h2_:∀ H',Same H H'→Q (.bl (madeOf z s m)) H'):Sp_madeof K vs H Q E_
noncomputable def sp_madeof (K:PySem.W.Frag):Sp:=Sp_madeof K
inductive Sp_isname (K:PySem.W.Frag) (vs:List V) (H:Hp) (Q:VK) (E_:XK):Prop
 | mk (z:Str) (h0_:vs=[.str z]) (h1_:z.length≤200000) (h2_:∀ H',Same H H'→Q (.bl (isNam z)) H'):Sp_isname K vs H Q E_
noncomputable def sp_isname (K:PySem.W.Frag):Sp:=Sp_isname K
inductive Sp_isnumber (K:PySem.W.Frag) (vs:List V) (H:Hp) (Q:VK) (E_:XK):Prop
 | mk (z:Str) (h0_:vs=[.str z]) (h1_:z.length≤200000) (h2_:∀ H',Same H H'→Q (.bl (isNum z)) H'):Sp_isnumber K vs H Q E_
noncomputable def sp_isnumber (K:PySem.W.Frag):Sp:=Sp_isnumber K
inductive Sp_fits (K:PySem.W.Frag) (vs:List V) (H:Hp) (Q:VK) (E_:XK):Prop
 | mk (a:Addr) (t:Addr) (ws:List Str) (ks:List Str) (h0_:vs=[.ref a,.ref t]) (h1_:SqL K H a (ws.map V.str)) (h2_:SqT K H t (ks.map V.str)) (h3_:ws.length≤200000) (h4_:(∀ w∈ws,w.length≤200000)) (h5_:∀ H',Same H H'→Q (.bl (fitsT ws ks)) H'):Sp_fits K vs H Q E_
noncomputable def sp_fits (K:PySem.W.Frag):Sp:=Sp_fits K
inductive Sp_deedsize (K:PySem.W.Frag) (vs:List V) (H:Hp) (Q:VK) (E_:XK):Prop
 | mk (a:Addr) (w:Str) (ws:List Str) (sh:List Str) (h0_:vs=[.ref a]) (h1_:SqL K H a ((w :: ws).map V.str)) (h2_:atTab SH w=some sh) (h3_:Q (.int (1 + (sh.length:Int))) H):Sp_deedsize K vs H Q E_
noncomputable def sp_deedsize (K:PySem.W.Frag):Sp:=Sp_deedsize K
inductive Sp_isguard (K:PySem.W.Frag) (vs:List V) (H:Hp) (Q:VK) (E_:XK):Prop
 | mk (a:Addr) (ws:List Str) (h0_:vs=[.ref a]) (h1_:SqL K H a (ws.map V.str)) (h2_:ws.length≤200000) (h3_:(∀ w∈ws,w.length≤200000)) (h4_:∀ H',Same H H'→Q (.bl (isGuardT ws)) H'):Sp_isguard K vs H Q E_
noncomputable def sp_isguard (K:PySem.W.Frag):Sp:=Sp_isguard K
inductive Sp_isdeed (K:PySem.W.Frag) (vs:List V) (H:Hp) (Q:VK) (E_:XK):Prop
 | mk (z:Str) (h0_:vs=[.str z]) (h1_:z.length≤190000) (h2_:∀ H',Same H H'→Q (.bl (isDeedT z)) H'):Sp_isdeed K vs H Q E_
noncomputable def sp_isdeed (K:PySem.W.Frag):Sp:=Sp_isdeed K
inductive Sp_ishand (K:PySem.W.Frag) (vs:List V) (H:Hp) (Q:VK) (E_:XK):Prop
 | mk (z:Str) (h0_:vs=[.str z]) (h1_:z.length≤190000) (h2_:∀ H',Same H H'→Q (.bl (isHandT z)) H'):Sp_ishand K vs H Q E_
noncomputable def sp_ishand (K:PySem.W.Frag):Sp:=Sp_ishand K
section
variable {P:Program} {w:World} {K:PySem.W.Frag} {mg:Str→Option Value} {base:Heap}
theorem sc_guardof:FnScope ["deed"] ["deed"] (defScope s_guardof):=⟨rfl,rfl,rfl,by decide +kernel,rfl,by decide +kernel,by decide +kernel⟩
theorem ok_guardof {f:Addr} {fd:FuncData} (F:Fun K "guard_of" "guard_of" s_guardof f fd) (T:Txt K mg) :FnOk P w K mg base CX0 1 f fd ["deed"] (sp_guardof K):=by
 refine F.ok (k:=0) sc_guardof (fun vs H Q E h=>?_) (fun cdv A outer s H vs Q E hr h=>?_)
 ·obtain ⟨p,xs,gv,rfl,_⟩:=h
  rfl
 ·obtain ⟨p,xs,gv,rfl,hS,q⟩:=h
  refine ⟨_,(pss_one (ps_ret (pe_ix ix_tup (pv 0) (pe_un un_neg pe_int) (fun _ _=>rfl)))),?_⟩
  exact ⟨_,rfl,_,rfl,p,_,_,_,rfl,rfl,hS,atI_last xs gv,q⟩
theorem sc_madeof:FnScope ["word","signs","most"] ["word","signs","most"] (defScope s_madeof):=⟨rfl,rfl,rfl,by decide +kernel,rfl,by decide +kernel,by decide +kernel⟩
theorem ok_madeof {f:Addr} {fd:FuncData} (F:Fun K "made_of" "made_of" s_madeof f fd) (T:Txt K mg) :FnOk P w K mg base CX0 1 f fd ["word","signs","most"] (sp_madeof K):=by
 refine F.ok (k:=0) sc_madeof (fun vs H Q E h=>?_) (fun cdv A outer s H vs Q E hr h=>?_)
 ·obtain ⟨z,s,m,rfl,_⟩:=h
  rfl
 ·obtain ⟨z,s,m,rfl,hz,q⟩:=h
  refine ⟨_,(pss_one (ps_ret (pe_and (pe_chain op_le op_le pe_int (pe_callB call_len_str rfl T.n_len bt_len (pa_cons (pv 0) pa_nil)) (pv 2)) (pe_one (pe_callB (call_all_bools rfl) rfl T.n_all bt_all (pa_cons (pe_comp (Nc:=["sign","signs"]) (nt:=1) (js:=[1]) rfl ⟨rfl,rfl,rfl,rfl,(.cons rfl .nil),rfl,⟨["sign"],["signs"],rfl,rfl,(.cons rfl rfl rfl .nil)⟩⟩ (pi_text (pv 0)) (fun C s3 H3 fp pins=>⟨(pg_name (i:=0) (show (["sign","signs"]:List Str).Nodup by decide +kernel) rfl (Or.inl rfl)),pts_nil,(pe_cmpR op_in_str (pv 0) (pv 1) (by with_unfolding_all rfl))⟩)) pa_nil)))))),?_⟩
  refine ⟨_,rfl,z,rfl,Nat.le_of_lt (big_ok hz),_,_,rfl,rfl,_,rfl,ite2 (fun c1=>⟨_,rfl,_,_,rfl,rfl,_,rfl,ite2 (fun c2=>?_) (fun c2=>?_)⟩) (fun c1=>⟨_,rfl,iteF ?_⟩)⟩
  ·refine ⟨_,rfl,z,rfl,fun D hD=>comp_text (fun i σ ys H'=>Same H H'∧H' D=some (.lst ys)∧ys=((sg z).take i).map (fun c=>V.bl (decide (c∈sg s)))∧∃ v,σ=[v,some (.str s)]) ?_ ?_ ?_ ?_ ?_⟩
   ·exact ⟨Same.new hD,upd_same,rfl,none,rfl⟩
   ·rintro i σ ys H' hi ⟨s1,hD',rfl,v,rfl⟩
    refine ⟨hD',?_⟩
    rw [List.length_map,List.length_take]
    lia
   ·exact Nat.le_of_lt (big_ok hz)
   ·rintro i c σ ys H' hc ⟨s1,hD',rfl,v,rfl⟩
    have hc':(sg z)[i]?=some c:=by rw [show (sg z)[i]?=z.cps[i]? from Array.getElem?_toList]; exact hc
    refine ⟨_,rfl,_,rfl,_,_,rfl,rfl,hD',Same.at hD s1,upd_same,?_,_,rfl⟩
    rw [take_map_succ hc',StrLaws.found_one]
   ·rintro σ ys H' ⟨s1,hD',rfl,v,rfl⟩
    refine ⟨D,(sg z).map (fun c=>decide (c∈sg s)),rfl,?_,?_⟩
    ·rw [List.map_map]
     have e:((sg z).take z.cps.size).map (fun c=>V.bl (decide (c∈sg s)))=(sg z).map (fun c=>V.bl (decide (c∈sg s))):=by
      rw [List.take_of_length_le (by rw [sg_len]; exact Nat.le_refl _)]
     rw [e] at hD'
     exact SqL.of hD'
    ·refine qb (q _ s1) ?_
     unfold madeOf
     rw [c1,c2,List.all_map]
     rfl
  ·refine qb (q _ (Same.refl _)) ?_
   unfold madeOf
   rw [c1,Bool.eq_false_iff.mpr c2]
   rfl
  ·refine qb (q _ (Same.refl _)) ?_
   unfold madeOf
   rw [Bool.eq_false_iff.mpr c1]
   rfl
theorem sc_isname:FnScope ["word"] ["word"] (defScope s_isname):=⟨rfl,rfl,rfl,by decide +kernel,rfl,by decide +kernel,by decide +kernel⟩
theorem ok_isname {f:Addr} {fd:FuncData} (F:Fun K "is_name" "is_name" s_isname f fd) (T:Txt K mg) (h_madeof:Has P w K mg base 1 "made_of" ["word","signs","most"] (sp_madeof K)):FnOk P w K mg base CX0 2 f fd ["word"] (sp_isname K):=by
 refine F.ok (k:=1) sc_isname (fun vs H Q E h=>?_) (fun cdv A outer s H vs Q E hr h=>?_)
 ·obtain ⟨z,rfl,_⟩:=h
  rfl
 ·obtain ⟨z,rfl,hz,q⟩:=h
  refine ⟨_,(pss_one (ps_ret (pe_fn h_madeof (hr.mono (by decide)) (pa_cons (pv 0) (pa_cons (pe_globI rfl T.g_LETTERS) (pa_cons (pe_globI rfl T.g_MOST_LETTERS) pa_nil)))))),?_⟩
  exact ⟨_,rfl,z,LET,8,rfl,hz,q⟩
theorem sc_isnumber:FnScope ["word","figures"] ["word"] (defScope s_isnumber):=⟨rfl,rfl,rfl,by decide +kernel,rfl,by decide +kernel,by decide +kernel⟩
theorem ok_isnumber {f:Addr} {fd:FuncData} (F:Fun K "is_number" "is_number" s_isnumber f fd) (T:Txt K mg) (h_madeof:Has P w K mg base 1 "made_of" ["word","signs","most"] (sp_madeof K)):FnOk P w K mg base CX0 2 f fd ["word"] (sp_isnumber K):=by
 refine F.ok (k:=1) sc_isnumber (fun vs H Q E h=>?_) (fun cdv A outer s H vs Q E hr h=>?_)
 ·obtain ⟨z,rfl,_⟩:=h
  rfl
 ·obtain ⟨z,rfl,hz,q⟩:=h
  refine ⟨_,(pss_cons (ps_set (i:=1) sc_isnumber.nd rfl (Or.inl rfl) (pe_cut (pe_ifExp (pt_val (pe_bm PySem.F.plainAttrs_str PySem.F.slot_str_startswith PySem.F.type_str_startswith mt_startswith (pv 0) (pa_cons pe_str pa_nil))) (pe_slice sl_str (pv 0) (po_some pe_int) po_none) (pv 0))))
   (pss_cons (ps_if (pt_not (pt_val (pe_fn h_madeof (hr.mono (by decide)) (pa_cons (pv 1) (pa_cons (pe_globI rfl T.g_FIGURES) (pa_cons (pe_globI rfl T.g_MOST_FIGURES) pa_nil))))))
   (pss_one (ps_ret pe_bl))
   pss_nil)
   (pss_one (ps_ret (pe_or (pe_cmpR op_eq (pv 0) pe_str (nomark _)) (pe_one (pe_not (pe_bm PySem.F.plainAttrs_str PySem.F.slot_str_startswith PySem.F.type_str_startswith mt_startswith (pv 1) (pa_cons pe_str pa_nil))))))))),?_⟩
  refine ⟨fun v H'=>H'=H∧v=.str (figT z),?_,?_⟩
  ·refine ⟨_,rfl,rfl,z,"-",rfl,rfl,_,rfl,ifB (fun c=>?_) (fun c=>?_)⟩
   ·refine ⟨_,rfl,_,rfl,z,rfl,Nat.le_of_lt (big_ok hz),rfl,?_⟩
    unfold figT
    rw [if_pos c]
   ·refine ⟨_,rfl,rfl,?_⟩
    unfold figT
    rw [if_neg (by rw [c]; decide)]
  ·rintro v H' ⟨rfl,rfl⟩
   have hfl:(figT z).length≤200000:=by
    unfold figT
    split
    ·exact Nat.le_trans (Txt.slice_le z _ _) hz
    ·exact hz
   refine ⟨_,rfl,figT z,FIG,60,rfl,hfl,fun H1 s1=>⟨_,rfl,ifB (fun c=>?_) (fun c=>?_)⟩⟩
   ·refine qb (q _ s1) ?_
    unfold isNum
    have c':madeOf (figT z) FIG 60=false:=by simpa using c
    rw [c']; rfl
   ·have c':madeOf (figT z) FIG 60=true:=by simpa using c
    refine ⟨_,rfl,rfl,_,rfl,ifB (fun c2=>?_) (fun c2=>?_)⟩
    ·refine qb (q _ s1) ?_
     unfold isNum
     rw [c',decide_eq_true (by simpa using c2)]; rfl
    ·refine ⟨_,rfl,rfl,figT z,"0",rfl,rfl,_,rfl,?_⟩
     refine qb (q _ s1) ?_
     unfold isNum
     rw [c',decide_eq_false (by simpa using c2)]; rfl
theorem sc_fits:FnScope ["words","shape"] ["words","shape"] (defScope s_fits):=⟨rfl,rfl,rfl,by decide +kernel,rfl,by decide +kernel,by decide +kernel⟩
theorem ok_fits {f:Addr} {fd:FuncData} (F:Fun K "fits" "fits" s_fits f fd) (T:Txt K mg) (h_isnumber:Has P w K mg base 2 "is_number" ["word"] (sp_isnumber K)) (h_isname:Has P w K mg base 2 "is_name" ["word"] (sp_isname K)):FnOk P w K mg base CX0 3 f fd ["words","shape"] (sp_fits K):=by
 refine F.ok (k:=2) sc_fits (fun vs H Q E h=>?_) (fun cdv A outer s H vs Q E hr h=>?_)
 ·obtain ⟨a,t,ws,ks,rfl,_⟩:=h
  rfl
 ·obtain ⟨a,t,ws,ks,rfl,hL,hT,hn,hw,q⟩:=h
  refine ⟨_,(pss_cons (ps_if (pt_cmpR op_ne (pe_callB call_len_seq rfl T.n_len bt_len (pa_cons (pv 0) pa_nil)) (pe_callB call_len_seq rfl T.n_len bt_len (pa_cons (pv 1) pa_nil)) (nomark _))
   (pss_one (ps_ret pe_bl))
   pss_nil)
   (pss_one (ps_ret (pe_callB (call_all_bools rfl) rfl T.n_all bt_all (pa_cons (pe_comp (Nc:=["word","kind"]) (nt:=2) (js:=[]) rfl ⟨rfl,rfl,rfl,rfl,.nil,rfl,⟨["word","kind"],[],rfl,rfl,.nil⟩⟩ (pi_zipT rfl T.n_zip (pa_cons (pv 0) (pa_cons (pv 1) pa_nil))) (fun C s3 H3 fp pins=>⟨(pg_tupK (K:=K) 2 rfl rfl (pgs_cons (pg_name (i:=0) (show (["word","kind"]:List Str).Nodup by decide +kernel) rfl (Or.inl rfl) (hf:=Or.inr rfl)) (pgs_cons (pg_name (i:=1) (show (["word","kind"]:List Str).Nodup by decide +kernel) rfl (Or.inl rfl) (hf:=Or.inr rfl)) pgs_nil)) rfl rfl),pts_nil,(pe_cut (pe_ifExp (pt_cmpR op_eq (pv 1) pe_str (nomark _)) (pe_fn h_isnumber (hr.mono (by decide)) (pa_cons (pv 0) pa_nil)) (pe_fn h_isname (hr.mono (by decide)) (pa_cons (pv 0) pa_nil))))⟩)) pa_nil))))),?_⟩
  refine ⟨_,rfl,a,_,rfl,.inl hL,_,rfl,t,_,rfl,.inr hT,rfl,_,rfl,ifB (fun c=>?_) (fun c=>?_)⟩
  ·refine qb (q _ (Same.refl _)) ?_
   unfold fitsT
   rw [List.length_map,List.length_map] at c
   rw [decide_eq_false (fun z=>by rw [z] at c; simp at c)]; rfl
  ·rw [List.length_map,List.length_map] at c
   have hlen:ws.length=ks.length:=by
    have c':decide (V.int (ws.length:Int)=V.int (ks.length:Int))=true:=by simpa using c
    have:=V.int.inj (of_decide_eq_true c')
    lia
   refine ⟨_,rfl,_,rfl,a,t,rfl,⟨_,hL⟩,⟨_,hT⟩,fun D hD=>comp_zipT (xs:=ws.map V.str) (ys:=ks.map V.str) (by rw [List.length_map,List.length_map,hlen]) (fun i σ ys H'=>Same H H'∧H' D=some (.lst ys)∧ys=((ws.zip ks).take i).map (fun (p:Str×Str)=>V.bl (if p.2="number" then isNum p.1 else isNam p.1))∧Ex_2_1 (fun v1 v2=>σ=[v1,v2])) ?_ ?_ ?_ ?_ ?_⟩
   ·exact ⟨Same.new hD,upd_same,rfl,none,none,rfl⟩
   ·rintro i σ ys H' hi ⟨s1,hD',rfl,v1,v2,rfl⟩
    refine ⟨s1.seq hL,s1.seqT hT,hD',?_⟩
    rw [List.length_map,List.length_take]
    lia
   ·rw [List.length_map]; exact Nat.le_of_lt (big_ok hn)
   ·rintro i x y σ ys H' pp hx hy ⟨s1,hD',rfl,v1,v2,rfl⟩ hpp
    obtain ⟨wx,hwx,rfl⟩:=refs_get hx
    obtain ⟨ky,hky,rfl⟩:=refs_get hy
    have s2:Same H' (upd H' pp (.tup [.str wx,.str ky])):=Same.new hpp
    have hz:(ws.zip ks)[i]?=some (wx,ky):=by rw [List.getElem?_zip_eq_some]; exact ⟨hwx,hky⟩
    have hwl:=hw wx (List.mem_of_getElem? hwx)
    refine ⟨pp,_,rfl,SqT.new,rfl,_,_,rfl,_,_,rfl,rfl,?_⟩
    refine ⟨fun v H2=>Same H' H2∧v=.bl (if ky="number" then isNum wx else isNam wx),?_,?_⟩
    ·refine ⟨_,rfl,rfl,_,rfl,ifB (fun c2=>?_) (fun c2=>?_)⟩
     ·refine ⟨_,rfl,wx,rfl,hwl,fun H2 s3=>⟨s2.trans s3,?_⟩⟩
      rw [if_pos (by simpa using c2)]
     ·refine ⟨_,rfl,wx,rfl,hwl,fun H2 s3=>⟨s2.trans s3,?_⟩⟩
      rw [if_neg (by simpa using c2)]
    ·rintro v H2 ⟨s3,rfl⟩
     refine ⟨s3 _ _ hD',Same.at hD (s1.trans s3),upd_same,?_,_,_,rfl⟩
     rw [take_map_succ hz]
   ·rintro σ ys H' ⟨s1,hD',rfl,v1,v2,rfl⟩
    refine ⟨D,(ws.zip ks).map (fun (p:Str×Str)=>if p.2="number" then isNum p.1 else isNam p.1),rfl,?_,?_⟩
    ·rw [List.map_map]
     have e:(ws.zip ks).take (ws.map V.str).length=ws.zip ks:=List.take_of_length_le (by rw [List.length_map,List.length_zip,hlen]; lia)
     rw [e] at hD'
     exact SqL.of hD'
    ·refine qb (q _ s1) ?_
     unfold fitsT
     rw [decide_eq_true hlen,List.all_map,Bool.true_and]
     rfl
theorem sc_deedsize:FnScope ["words"] ["words"] (defScope s_deedsize):=⟨rfl,rfl,rfl,by decide +kernel,rfl,by decide +kernel,by decide +kernel⟩
theorem ok_deedsize {f:Addr} {fd:FuncData} (F:Fun K "deed_size" "deed_size" s_deedsize f fd) (T:Txt K mg) :FnOk P w K mg base CX0 1 f fd ["words"] (sp_deedsize K):=by
 refine F.ok (k:=0) sc_deedsize (fun vs H Q E h=>?_) (fun cdv A outer s H vs Q E hr h=>?_)
 ·obtain ⟨a,w,ws,sh,rfl,_⟩:=h
  rfl
 ·obtain ⟨a,w,ws,sh,rfl,hL,hsh,q⟩:=h
  obtain ⟨ag_SHAPES,mg_SHAPES,kt_SHAPES⟩:=T.g_SHAPES
  refine ⟨_,(pss_one (ps_ret (pe_op op_add pe_int (pe_callB call_len_seq rfl T.n_len bt_len (pa_cons (pe_tab (pe_glob (v:=.ref ag_SHAPES) rfl mg_SHAPES rfl) (pe_ix ix_list (pv 0) pe_int (fun _ _=>rfl)) (fun _ _=>rfl)) pa_nil))))),?_⟩
  have hn:sh.length≤3:=(nam_kinds _ (sh_cases hsh)).2.1
  refine ⟨_,rfl,a,_,_,_,rfl,rfl,hL,at0,ag_SHAPES,SH,w,sh,rfl,rfl,kt_SHAPES,hsh,by lia,fun t ht=>⟨t,_,rfl,.inr ht,_,_,rfl,rfl,?_⟩⟩
  rw [List.length_map]
  exact q
theorem inV_two (w:Str):inV (.str w) [.str "when",.str "unless"]=(decide (w="when") || decide (w="unless")):=by
 have e:∀ k:Str,eqV (.str k) (.str w)=decide (w=k):=fun k=>by
  show (k == w)=decide (w=k)
  by_cases c:w=k
  ·rw [c,decide_eq_true rfl,beq_self_eq_true]
  ·rw [decide_eq_false c,beq_eq_false_iff_ne.mpr fun z=>c z.symm]
 unfold inV
 rw [List.any_cons,List.any_cons,List.any_nil,e,e,Bool.or_false]
theorem sc_isguard:FnScope ["words"] ["words"] (defScope s_isguard):=⟨rfl,rfl,rfl,by decide +kernel,rfl,by decide +kernel,by decide +kernel⟩
theorem ok_isguard {f:Addr} {fd:FuncData} (F:Fun K "is_guard" "is_guard" s_isguard f fd) (T:Txt K mg) (h_fits:Has P w K mg base 3 "fits" ["words","shape"] (sp_fits K)):FnOk P w K mg base CX0 4 f fd ["words"] (sp_isguard K):=by
 refine F.ok (k:=3) sc_isguard (fun vs H Q E h=>?_) (fun cdv A outer s H vs Q E hr h=>?_)
 ·obtain ⟨a,ws,rfl,_⟩:=h
  rfl
 ·obtain ⟨a,ws,rfl,hL,hn,hw,q⟩:=h
  obtain ⟨ag_GUARD_WORDS,mg_GUARD_WORDS,kt_GUARD_WORDS⟩:=T.g_GUARD_WORDS
  obtain ⟨ag_GUARD_SHAPE,mg_GUARD_SHAPE,kt_GUARD_SHAPE⟩:=T.g_GUARD_SHAPE
  refine ⟨_,(pss_one (ps_ret (pe_or (pe_cmpR (op_eqC (hu_deep hr)) (pv 0) (pe_lst pa_nil) (nomark _)) (pe_one (pe_and (pe_cmpR op_in_seq (pe_ix ix_list (pv 0) pe_int (fun _ _=>rfl)) (pe_glob (v:=.ref ag_GUARD_WORDS) rfl mg_GUARD_WORDS rfl) (by with_unfolding_all rfl)) (pe_one (pe_fn h_fits (hr.mono (by decide)) (pa_cons (pe_slice sl_list (pv 0) (po_some pe_int) po_none) (pa_cons (pe_glob (v:=.ref ag_GUARD_SHAPE) rfl mg_GUARD_SHAPE rfl) pa_nil))))))))),?_⟩
  refine ⟨_,rfl,by decide,fun l hl=>?_⟩
  have s1:Same H (upd H l (.lst [])):=Same.new hl
  cases ws with
  | nil =>
   refine ⟨a,l,_,rfl,rfl,.lst (fun _=>true) (s1.seq hL) SqL.new rfl (fun i x y hx=>by cases hx),_,rfl,iteT ?_⟩
   exact qb (q _ s1) rfl
  | cons w ws =>
   refine ⟨a,l,_,rfl,rfl,.len (s1.seq hL) SqL.new (by simp),_,rfl,iteF ?_⟩
   refine ⟨_,rfl,a,_,_,_,rfl,rfl,s1.seq hL,at0,ag_GUARD_WORDS,_,rfl,.inr (kt_GUARD_WORDS.sq (by decide)),rfl,rfl,_,rfl,ifB (fun c=>?_) (fun c=>?_)⟩
   ·have c':(decide (w="when") || decide (w="unless"))=true:=by rw [← inV_two]; exact c
    refine ⟨_,rfl,_,rfl,a,_,rfl,s1.seq hL,fun p hp=>?_⟩
    have s2:=s1.then (o:=.lst (cutV ((w :: ws).map V.str) (some 1) none)) hp
    refine ⟨p,ag_GUARD_SHAPE,ws,_,rfl,?_,kt_GUARD_SHAPE.sq (by decide),?_,fun u hu=>hw u (List.mem_cons_of_mem _ hu),fun H' s3=>?_⟩
    ·have e:cutV ((w :: ws).map V.str) (some 1) none=ws.map V.str:=cut_from _ 1
     rw [e]
     exact SqL.new
    ·rw [List.length_cons] at hn; lia
    ·refine qb (q _ (s2.trans s3)) ?_
     show ((decide (w="when") || decide (w="unless")) && fitsT ws ["name","number"])=_
     rw [c',Bool.true_and]
   ·have c':(decide (w="when") || decide (w="unless"))=false:=by rw [← inV_two]; exact c
    refine qb (q _ s1) ?_
    show ((decide (w="when") || decide (w="unless")) && fitsT ws ["name","number"])=_
    rw [c',Bool.false_and]
end
end Own
set_option Elab.async false
set_option linter.all false
set_option maxRecDepth 100000
set_option maxHeartbeats 4100000
namespace Own
open PySem L2
theorem atTab_none {D:List (Str×List Str)} {w:Str} (h:inTab D w=false):atTab D w=none:=by
 cases e:atTab D w with
 | none=>rfl
 | some ws=>rw [inTab_of e] at h; cases h
theorem atTab_some {D:List (Str×List Str)} {w:Str} (h:inTab D w=true):∃ sh,atTab D w=some sh:=by
 unfold inTab at h
 obtain ⟨p,hp,e⟩:=List.any_eq_true.mp h
 unfold atTab
 cases e2:D.find? fun p=>decide (w=p.1) with
 | none=>exact absurd e (by simpa using List.find?_eq_none.mp e2 p hp)
 | some p=>exact ⟨p.2,rfl⟩
section
variable {P:Program} {w:World} {K:PySem.W.Frag} {mg:Str→Option Value} {base:Heap}
theorem sc_isdeed:FnScope ["text","words","size"] ["text"] (defScope s_isdeed):=⟨rfl,rfl,rfl,by decide +kernel,rfl,by decide +kernel,by decide +kernel⟩
theorem ok_isdeed {f:Addr} {fd:FuncData} (F:Fun K "is_deed" "is_deed" s_isdeed f fd) (T:Txt K mg) (h_deedsize:Has P w K mg base 1 "deed_size" ["words"] (sp_deedsize K)) (h_fits:Has P w K mg base 3 "fits" ["words","shape"] (sp_fits K)) (h_isguard:Has P w K mg base 4 "is_guard" ["words"] (sp_isguard K)):FnOk P w K mg base CX0 5 f fd ["text"] (sp_isdeed K):=by
 refine F.ok (k:=4) sc_isdeed (fun vs H Q E h=>?_) (fun cdv A outer s H vs Q E hr h=>?_)
 ·obtain ⟨z,rfl,_⟩:=h
  rfl
 ·obtain ⟨z,rfl,hz,q⟩:=h
  obtain ⟨ag_SHAPES,mg_SHAPES,kt_SHAPES⟩:=T.g_SHAPES
  refine ⟨_,(pss_cons (ps_set (i:=1) sc_isdeed.nd rfl (Or.inl rfl) (pe_bm PySem.F.plainAttrs_str PySem.F.slot_str_split PySem.F.type_str_split mt_split (pv 0) (pa_cons pe_str pa_nil)))
   (pss_cons (ps_if (pt_cmpR op_notInTab (pe_ix ix_list (pv 1) pe_int (fun _ _=>rfl)) (pe_glob (v:=.ref ag_SHAPES) rfl mg_SHAPES rfl) (by with_unfolding_all rfl))
   (pss_one (ps_ret pe_bl))
   pss_nil)
   (pss_cons (ps_set (i:=2) sc_isdeed.nd rfl (Or.inl rfl) (pe_fn h_deedsize (hr.mono (by decide)) (pa_cons (pv 1) pa_nil)))
   (pss_one (ps_ret (pe_and (pe_fn h_fits (hr.mono (by decide)) (pa_cons (pe_slice sl_list (pv 1) (po_some pe_int) (po_some (pv 2))) (pa_cons (pe_tab (pe_glob (v:=.ref ag_SHAPES) rfl mg_SHAPES rfl) (pe_ix ix_list (pv 1) pe_int (fun _ _=>rfl)) (fun _ _=>rfl)) pa_nil))) (pe_one (pe_fn h_isguard (hr.mono (by decide)) (pa_cons (pe_slice sl_list (pv 1) (po_some (pv 2)) po_none) pa_nil))))))))),?_⟩
  refine ⟨_,rfl,rfl,z," ",rfl,rfl,rfl,(Nat.le_of_lt (big_ok (by lia))),fun l hl=>?_⟩
  have hparts:=split_part z " "
  have hcount:=split_len z " "
  have hq:isDeedT z=match Txt.split z " " with | []=>false | w :: r=>match atTab SH w with | none=>false | some sh=>fitsT (r.take sh.length) sh && isGuardT (r.drop sh.length):=rfl
  have hne:=split_ne z " "
  generalize Txt.split z " "=ws0 at hparts hcount hq hne
  cases ws0 with
  | nil=>exact absurd rfl hne
  | cons w ws =>
   have s1:Same H (upd H l (.lst ((w :: ws).map V.str))):=Same.new hl
   have hL:SqL K (upd H l (.lst ((w :: ws).map V.str))) l ((w :: ws).map V.str):=SqL.new
   generalize upd H l (.lst ((w :: ws).map V.str))=H1 at s1 hL
   rw [List.length_cons] at hcount
   refine ⟨_,rfl,l,_,_,_,rfl,rfl,hL,at0,w,ag_SHAPES,SH,rfl,rfl,kt_SHAPES,_,rfl,ifB (fun c=>?_) (fun c=>?_)⟩
   ·refine qb (q _ s1) ?_
    have e:atTab SH w=none:=atTab_none (by simpa using c)
    rw [hq]
    show (match atTab SH w with | none=>false | some sh=>fitsT (ws.take sh.length) sh && isGuardT (ws.drop sh.length))=false
    rw [e]
   ·obtain ⟨sh,hsh⟩:=atTab_some (show inTab SH w=true by simpa using c)
    have hn3:sh.length≤3:=(nam_kinds _ (sh_cases hsh)).2.1
    have hq':isDeedT z=(fitsT (ws.take sh.length) sh && isGuardT (ws.drop sh.length)):=by
     rw [hq]
     show (match atTab SH w with | none=>false | some sh=>fitsT (ws.take sh.length) sh && isGuardT (ws.drop sh.length))=_
     rw [hsh]
    refine ⟨_,rfl,l,w,ws,sh,rfl,hL,hsh,?_⟩
    refine ⟨_,rfl,_,rfl,_,rfl,_,rfl,l,_,rfl,hL,fun p1 hp1=>?_⟩
    have e1:cutV ((w :: ws).map V.str) (some 1) (some (1 + (sh.length:Int)))=(ws.take sh.length).map V.str:=by
     rw [cut_mid _ _ (by simp),List.map_take]; rfl
    rw [e1]
    have s2:Same H1 (upd H1 p1 (.lst ((ws.take sh.length).map V.str))):=Same.new hp1
    have hP1:SqL K (upd H1 p1 (.lst ((ws.take sh.length).map V.str))) p1 ((ws.take sh.length).map V.str):=SqL.new
    generalize upd H1 p1 (.lst ((ws.take sh.length).map V.str))=H2 at s2 hP1
    refine ⟨_,rfl,l,_,_,_,rfl,rfl,s2.seq hL,at0,ag_SHAPES,SH,w,sh,rfl,rfl,kt_SHAPES,hsh,by lia,fun t ht=>?_⟩
    refine ⟨p1,t,ws.take sh.length,sh,rfl,hP1,ht,by rw [List.length_take]; lia,fun u hu=>Nat.le_trans (hparts u (List.mem_cons_of_mem _ (List.mem_of_mem_take hu))) (by lia),fun H3 s3=>⟨_,rfl,ifB (fun c2=>?_) (fun c2=>?_)⟩⟩
    ·have s13:=s2.trans s3
     refine ⟨_,rfl,_,rfl,_,rfl,l,_,rfl,s13.seq hL,fun p2 hp2=>?_⟩
     have e2:cutV ((w :: ws).map V.str) (some (1 + (sh.length:Int))) none=(ws.drop sh.length).map V.str:=by
      have e0:(1:Int) + (sh.length:Int)=((1 + sh.length:Nat):Int):=by lia
      rw [e0,cut_from,List.map_drop,List.map_cons,Nat.add_comm,List.drop_succ_cons]
     rw [e2]
     refine ⟨p2,ws.drop sh.length,rfl,SqL.new,by rw [List.length_drop]; lia,fun u hu=>Nat.le_trans (hparts u (List.mem_cons_of_mem _ (List.mem_of_mem_drop hu))) (by lia),fun H4 s4=>?_⟩
     refine qb (q _ (s1.trans (s13.trans ((Same.new hp2).trans s4)))) ?_
     rw [hq',c2,Bool.true_and]
    ·refine qb (q _ (s1.trans (s2.trans s3))) ?_
     rw [hq',c2,Bool.false_and]
theorem sc_ishand:FnScope ["text"] ["text"] (defScope s_ishand):=⟨rfl,rfl,rfl,by decide +kernel,rfl,by decide +kernel,by decide +kernel⟩
theorem ok_ishand {f:Addr} {fd:FuncData} (F:Fun K "is_hand" "is_hand" s_ishand f fd) (T:Txt K mg) (h_isdeed:Has P w K mg base 5 "is_deed" ["text"] (sp_isdeed K)):FnOk P w K mg base CX0 6 f fd ["text"] (sp_ishand K):=by
 refine F.ok (k:=5) sc_ishand (fun vs H Q E h=>?_) (fun cdv A outer s H vs Q E hr h=>?_)
 ·obtain ⟨z,rfl,_⟩:=h
  rfl
 ·obtain ⟨z,rfl,hz,q⟩:=h
  refine ⟨_,(pss_one (ps_ret (pe_or (pe_cmpR op_eq (pv 0) pe_str (nomark _)) (pe_one (pe_callB (call_all_bools rfl) rfl T.n_all bt_all (pa_cons (pe_comp (Nc:=["part"]) (nt:=1) (js:=[]) rfl ⟨rfl,rfl,rfl,rfl,.nil,rfl,⟨["part"],[],rfl,rfl,.nil⟩⟩ (pi_list (pe_bm PySem.F.plainAttrs_str PySem.F.slot_str_split PySem.F.type_str_split mt_split (pv 0) (pa_cons pe_str pa_nil))) (fun C s3 H3 fp pins=>⟨(pg_name (i:=0) (show (["part"]:List Str).Nodup by decide +kernel) rfl (Or.inl rfl)),pts_nil,(pe_fn h_isdeed (hr.mono (by decide)) (pa_cons (pv 0) pa_nil))⟩)) pa_nil)))))),?_⟩
  refine ⟨_,rfl,rfl,_,rfl,ifB (fun c=>?_) (fun c=>?_)⟩
  ·refine qb (q _ (Same.refl _)) ?_
   unfold isHandT
   rw [decide_eq_true (by simpa using c)]; rfl
  ·have hcount:=split_len z "; "
   have hparts:=split_part z "; "
   have hq:isHandT z=(Txt.split z "; ").all isDeedT:=by
    unfold isHandT
    rw [decide_eq_false (by simpa using c)]; rfl
   refine ⟨_,rfl,rfl,z,"; ",rfl,rfl,rfl,(Nat.le_of_lt (big_ok (by lia))),fun l hl=>⟨l,rfl,⟨_,SqL.new⟩,fun D hD=>?_⟩⟩
   generalize Txt.split z "; "=ws at hcount hparts hq hD
   have s1:Same H (upd H l (.lst (ws.map V.str))):=Same.new hl
   have hL:SqL K (upd H l (.lst (ws.map V.str))) l (ws.map V.str):=SqL.new
   generalize upd H l (.lst (ws.map V.str))=H1 at s1 hL hD
   refine comp_list (xs:=ws.map V.str) (fun i σ ys H'=>Same H1 H'∧H' D=some (.lst ys)∧ys=(ws.take i).map (fun u=>V.bl (isDeedT u))∧∃ v,σ=[v]) ?_ ?_ ?_ ?_ ?_
   ·exact ⟨Same.new hD,upd_same,rfl,none,rfl⟩
   ·rintro i σ ys H' hi ⟨s2,hD',rfl,v,rfl⟩
    refine ⟨s2.seq hL,hD',?_⟩
    rw [List.length_map,List.length_take]
    lia
   ·rw [List.length_map]; exact Nat.le_of_lt (big_ok (by lia))
   ·rintro i x σ ys H' hx ⟨s2,hD',rfl,v,rfl⟩
    obtain ⟨u,hu,rfl⟩:=refs_get hx
    refine ⟨_,rfl,u,rfl,Nat.le_trans (hparts u (List.mem_of_getElem? hu)) hz,fun H2 s3=>⟨s3 _ _ hD',Same.at hD (s2.trans s3),upd_same,?_,_,rfl⟩⟩
    rw [take_map_succ hu]
   ·rintro σ ys H' ⟨s2,hD',rfl,v,rfl⟩
    refine ⟨D,ws.map isDeedT,rfl,?_,?_⟩
    ·rw [List.length_map,List.take_of_length_le (Nat.le_refl _)] at hD'
     rw [List.map_map]
     exact SqL.of hD'
    ·refine qb (q _ (s1.trans s2)) ?_
     rw [hq,List.all_map]
     rfl
theorem sc_showdeed:FnScope ["deed","guard","words"] ["deed"] (defScope s_showdeed):=⟨rfl,rfl,rfl,by decide +kernel,rfl,by decide +kernel,by decide +kernel⟩
theorem ok_showdeed {f:Addr} {fd:FuncData} (F:Fun K "show_deed" "show_deed" s_showdeed f fd) (T:Txt K mg) (h_guardof:Has P w K mg base 1 "guard_of" ["deed"] (sp_guardof K)):FnOk P w K mg base CX0 2 f fd ["deed"] (sp_showdeed K):=by
 refine F.ok (k:=1) sc_showdeed (fun vs H Q E h=>?_) (fun cdv A outer s H vs Q E hr h=>?_)
 ·obtain ⟨x,rfl,_⟩:=h
  rfl
 ·obtain ⟨x,rfl,hx,q⟩:=h
  refine ⟨_,(pss_cons (ps_set (i:=1) sc_showdeed.nd rfl (Or.inl rfl) (pe_fn h_guardof (hr.mono (by decide)) (pa_cons (pv 0) pa_nil)))
   (pss_cons (ps_set (i:=2) sc_showdeed.nd rfl (Or.inl rfl) (pe_cut (pe_ifExp (pt_cmpR op_isN (pv 1) pe_non (nomark _)) (pe_slice sl_tup (pv 0) po_none (po_some (pe_un un_neg pe_int))) (pe_op op_catT (pe_slice sl_tup (pv 0) po_none (po_some (pe_un un_neg pe_int))) (pv 1)))))
   (pss_one (ps_ret (pe_bm PySem.F.plainAttrs_str PySem.F.slot_str_join PySem.F.type_str_join mt_join pe_str (pa_cons (pe_comp (Nc:=["word"]) (nt:=1) (js:=[]) rfl ⟨rfl,rfl,rfl,rfl,.nil,rfl,⟨["word"],[],rfl,rfl,.nil⟩⟩ (pi_tup (pv 2)) (fun C s3 H3 fp pins=>⟨(pg_name (i:=0) (show (["word"]:List Str).Nodup by decide +kernel) rfl (Or.inl rfl)),pts_nil,(pe_callTy call_str_any rfl T.n_str bt_str (pa_cons (pv 0) pa_nil))⟩)) pa_nil)))))),?_⟩
  obtain ⟨⟨gv,hS,hg⟩,hok⟩:=hx
  have hl7:=hok.len
  rw [List.length_append] at hl7
  have nw:¬ (HT.sIx (x.d.1.map Wd.v ++ [gv]).length 0 none=0∧HT.sIx (x.d.1.map Wd.v ++ [gv]).length (x.d.1.map Wd.v ++ [gv]).length (some (-1))=(x.d.1.map Wd.v ++ [gv]).length):=fun z=>by
   have z2:=z.2
   have e2:HT.sIx (x.d.1.map Wd.v ++ [gv]).length (x.d.1.map Wd.v ++ [gv]).length (some (-1))=(x.d.1.map Wd.v).length:=by
    have e3:HT.sIx (x.d.1.map Wd.v ++ [gv]).length (x.d.1.map Wd.v ++ [gv]).length (some (-1))=((-1:Int) + ((x.d.1.map Wd.v ++ [gv]).length:Int)).toNat:=by unfold HT.sIx; exact if_pos (by decide)
    rw [e3,List.length_append,List.length_singleton]
    lia
   rw [e2,List.length_append,List.length_singleton] at z2
   lia
  refine ⟨_,rfl,x.a,_,gv,rfl,hS,?_⟩
  refine ⟨fun v H'=>∃ tw,v=.ref tw∧Same H H'∧SqT K H' tw ((x.d.1 ++ x.d.2).map Wd.v),?_,?_⟩
  ·rcases hg with ⟨eg,rfl⟩ | ⟨ng,gq,rfl,hgq⟩
   ·refine ⟨_,rfl,rfl,_,rfl,ifDt rfl ⟨_,rfl,_,rfl,_,rfl,x.a,_,rfl,hS,nw,fun p hp=>⟨p,rfl,Same.new hp,?_⟩⟩⟩
    rw [cut_front,eg,List.append_nil]
    exact SqT.new
   ·refine ⟨_,rfl,rfl,_,rfl,ifDf (fun z=>by cases z) ⟨_,rfl,_,rfl,_,rfl,x.a,_,rfl,hS,nw,fun p hp=>?_⟩⟩
    rw [cut_front]
    have s1:Same H (upd H p (.tup (x.d.1.map Wd.v))):=Same.new hp
    refine ⟨_,rfl,p,gq,_,_,rfl,rfl,SqT.new,s1.seqT hgq,?_,?_,fun z=>?_,fun _ p2 hp2=>⟨p2,rfl,s1.then hp2,?_⟩⟩
    ·intro z
     have y:=List.map_eq_nil_iff.mp z
     rw [y] at hl7
     exact absurd hl7.1 (by decide)
    ·rw [List.length_map,List.length_map]
     exact Nat.le_of_lt (small1000 (by lia))
    ·exact absurd (List.map_eq_nil_iff.mp z) ng
    ·rw [List.map_append]
     exact SqT.new
  ·rintro v H1 ⟨tw,rfl,s1,hT⟩
   refine ⟨rfl,_,rfl,tw,rfl,⟨_,hT⟩,fun D hD=>comp_tup (xs:=(x.d.1 ++ x.d.2).map Wd.v) (fun i σ ys H'=>Same H1 H'∧H' D=some (.lst ys)∧ys=((x.d.1 ++ x.d.2).take i).map (fun u=>V.str u.t)∧∃ v,σ=[v]) ?_ ?_ ?_ ?_ ?_⟩
   ·exact ⟨Same.new hD,upd_same,rfl,none,rfl⟩
   ·rintro i σ ys H' hi ⟨s2,hD',rfl,v,rfl⟩
    refine ⟨s2.seqT hT,hD',?_⟩
    rw [List.length_map,List.length_take]
    lia
   ·rw [List.length_map,List.length_append]; exact Nat.le_of_lt (small1000 (by lia))
   ·rintro i y σ ys H' hy ⟨s2,hD',rfl,v,rfl⟩
    obtain ⟨u,hu,rfl⟩:=refs_get hy
    have hu':=hok.ok u (List.mem_of_getElem? hu)
    have fin:H' D=some (.lst (((x.d.1 ++ x.d.2).take i).map fun u=>V.str u.t))∧(Same H1 (upd H' D (.lst ((((x.d.1 ++ x.d.2).take i).map fun u=>V.str u.t) ++ [V.str u.t])))∧upd H' D (.lst ((((x.d.1 ++ x.d.2).take i).map fun u=>V.str u.t) ++ [V.str u.t])) D=some (.lst ((((x.d.1 ++ x.d.2).take i).map fun u=>V.str u.t) ++ [V.str u.t]))∧(((x.d.1 ++ x.d.2).take i).map (fun u=>V.str u.t)) ++ [V.str u.t]=((x.d.1 ++ x.d.2).take (i + 1)).map (fun u=>V.str u.t)∧∃ v,[some u.v]=[v]) :=
     ⟨hD',Same.at hD s2,upd_same,by rw [take_map_succ hu],_,rfl⟩
    cases u with
    | s z=>exact ⟨_,rfl,.inl ⟨z,rfl,fin⟩⟩
    | n k=>exact ⟨_,rfl,.inr ⟨k,rfl,log_small k hu',fin⟩⟩
   ·rintro σ ys H' ⟨s2,hD',rfl,v,rfl⟩
    rw [List.length_map,List.take_of_length_le (Nat.le_refl _)] at hD'
    refine ⟨" ",D,wtx x.d,rfl,rfl,?_,?_,q _ (s1.trans s2)⟩
    ·unfold wtx
     rw [List.map_map]
     exact SqL.of hD'
    ·have h2:=wtx_len hok
     exact joinOk_of (B:=61) (fun y hy=>(wtx_ok hok y hy).2.1) (by show (wtx x.d).length * 61 + (wtx x.d).length * 1≤16777216; lia)
theorem sc_showhand:FnScope ["hand"] ["hand"] (defScope s_showhand):=⟨rfl,rfl,rfl,by decide +kernel,rfl,by decide +kernel,by decide +kernel⟩
theorem ok_showhand {f:Addr} {fd:FuncData} (F:Fun K "show_hand" "show_hand" s_showhand f fd) (T:Txt K mg) (h_showdeed:Has P w K mg base 2 "show_deed" ["deed"] (sp_showdeed K)):FnOk P w K mg base CX0 3 f fd ["hand"] (sp_showhand K):=by
 refine F.ok (k:=2) sc_showhand (fun vs H Q E h=>?_) (fun cdv A outer s H vs Q E hr h=>?_)
 ·obtain ⟨a,ds,rfl,_⟩:=h
  rfl
 ·obtain ⟨a,ds,rfl,hH,q⟩:=h
  refine ⟨_,(pss_one (ps_ret (pe_cut (pe_ifExp (pt_cmpR (op_neC (hu_deep hr)) (pv 0) (pe_lst pa_nil) (nomark _)) (pe_bm PySem.F.plainAttrs_str PySem.F.slot_str_join PySem.F.type_str_join mt_join pe_str (pa_cons (pe_comp (Nc:=["deed"]) (nt:=1) (js:=[]) rfl ⟨rfl,rfl,rfl,rfl,.nil,rfl,⟨["deed"],[],rfl,rfl,.nil⟩⟩ (pi_list (pv 0)) (fun C s3 H3 fp pins=>⟨(pg_name (i:=0) (show (["deed"]:List Str).Nodup by decide +kernel) rfl (Or.inl rfl)),pts_nil,(pe_fn h_showdeed (hr.mono (by decide)) (pa_cons (pv 0) pa_nil))⟩)) pa_nil)) pe_str)))),?_⟩
  refine ⟨fun v H'=>Same H H'∧v=.str (htx (dat ds)),?_,?_⟩
  ·refine ⟨_,rfl,by decide,fun l hl=>?_⟩
   have s1:Same H (upd H l (.lst [])):=Same.new hl
   have hok:=hH.ok
   have hn:=hH.n
   cases ds with
   | nil=>exact ⟨a,l,_,rfl,rfl,.lst (fun _=>true) (s1.seq hH.l) SqL.new rfl (fun i x y hx=>by cases hx),_,rfl,ifF rfl ⟨s1,rfl⟩⟩
   | cons d0 ds0 =>
    generalize hds:d0 :: ds0=ds at hH q hok hn
    have hne:dat ds≠[]:=by rw [← hds]; simp [dat]
    refine ⟨a,l,_,rfl,rfl,.len (s1.seq hH.l) SqL.new (by rw [← hds]; simp),_,rfl,ifT rfl ?_⟩
    have hH1:=hH.same s1
    generalize upd H l (.lst [])=H1 at s1 hH1
    refine ⟨rfl,_,rfl,a,rfl,⟨_,hH1.l⟩,fun D hD=>comp_list (xs:=ds.map fun x=>V.ref x.a) (fun i σ ys H'=>Same H1 H'∧H' D=some (.lst ys)∧ys=(ds.take i).map (fun u=>V.str (dtx u.d))∧∃ v,σ=[v]) ?_ ?_ ?_ ?_ ?_⟩
    ·exact ⟨Same.new hD,upd_same,rfl,none,rfl⟩
    ·rintro i σ ys H' hi ⟨s2,hD',rfl,v,rfl⟩
     refine ⟨s2.seq hH1.l,hD',?_⟩
     rw [List.length_map,List.length_take]
     lia
    ·rw [List.length_map]; exact Nat.le_of_lt (small1000 (by lia))
    ·rintro i x σ ys H' hx ⟨s2,hD',rfl,v,rfl⟩
     obtain ⟨u,hu,rfl⟩:=refs_get hx
     refine ⟨_,rfl,u,rfl,(hH1.dd u (List.mem_of_getElem? hu)).same s2,fun H2 s3=>⟨s3 _ _ hD',Same.at hD (s2.trans s3),upd_same,?_,_,rfl⟩⟩
     rw [take_map_succ hu]
    ·rintro σ ys H' ⟨s2,hD',rfl,v,rfl⟩
     rw [List.length_map,List.take_of_length_le (Nat.le_refl _)] at hD'
     refine ⟨"; ",D,(dat ds).map dtx,rfl,rfl,?_,?_,s1.trans s2,?_⟩
     ·unfold dat
      rw [List.map_map,List.map_map]
      exact SqL.of hD'
     ·refine joinOk_of (B:=500) (fun y hy=>?_) ?_
      ·obtain ⟨d,hd,rfl⟩:=List.mem_map.mp hy
       exact dtx_len (hok d hd)
      ·show ((dat ds).map dtx).length * 500 + ((dat ds).map dtx).length * 2≤16777216
       unfold dat
       rw [List.length_map,List.length_map]
       lia
     ·rw [(htx_split hok hne).1]
  ·rintro v H1 ⟨s1,rfl⟩
   exact q _ s1
theorem sc_shown:FnScope ["program"] ["program"] (defScope s_shown):=⟨rfl,rfl,rfl,by decide +kernel,rfl,by decide +kernel,by decide +kernel⟩
theorem ok_shown {f:Addr} {fd:FuncData} (F:Fun K "shown" "shown" s_shown f fd) (T:Txt K mg) (h_showhand:Has P w K mg base 3 "show_hand" ["hand"] (sp_showhand K)):FnOk P w K mg base CX0 4 f fd ["program"] (sp_shown K):=by
 refine F.ok (k:=3) sc_shown (fun vs H Q E h=>?_) (fun cdv A outer s H vs Q E hr h=>?_)
 ·obtain ⟨p,hs,rfl,_⟩:=h
  rfl
 ·obtain ⟨p,hs,rfl,hP,q⟩:=h
  refine ⟨_,(pss_one (ps_ret (pe_bm PySem.F.plainAttrs_str PySem.F.slot_str_join PySem.F.type_str_join mt_join pe_str (pa_cons (pe_comp (Nc:=["hand"]) (nt:=1) (js:=[]) rfl ⟨rfl,rfl,rfl,rfl,.nil,rfl,⟨["hand"],[],rfl,rfl,.nil⟩⟩ (pi_list (pv 0)) (fun C s3 H3 fp pins=>⟨(pg_name (i:=0) (show (["hand"]:List Str).Nodup by decide +kernel) rfl (Or.inl rfl)),pts_nil,(pe_fn h_showhand (hr.mono (by decide)) (pa_cons (pv 0) pa_nil))⟩)) pa_nil)))),?_⟩
  have hn:=hP.n
  refine ⟨rfl,_,rfl,p,rfl,⟨_,hP.l⟩,fun D hD=>comp_list (xs:=hs.map fun h=>V.ref h.1) (fun i σ ys H'=>Same H H'∧H' D=some (.lst ys)∧ys=(hs.take i).map (fun h=>V.str (htx (dat h.2)))∧∃ v,σ=[v]) ?_ ?_ ?_ ?_ ?_⟩
  ·exact ⟨Same.new hD,upd_same,rfl,none,rfl⟩
  ·rintro i σ ys H' hi ⟨s2,hD',rfl,v,rfl⟩
   refine ⟨s2.seq hP.l,hD',?_⟩
   rw [List.length_map,List.length_take]
   lia
  ·rw [List.length_map]; exact Nat.le_of_lt (small1000 (by lia))
  ·rintro i x σ ys H' hx ⟨s2,hD',rfl,v,rfl⟩
   obtain ⟨u,hu,rfl⟩:=refs_get hx
   refine ⟨_,rfl,u.1,u.2,rfl,(hP.hh u (List.mem_of_getElem? hu)).same s2,fun H2 s3=>⟨s3 _ _ hD',Same.at hD (s2.trans s3),upd_same,?_,_,rfl⟩⟩
   rw [take_map_succ hu]
  ·rintro σ ys H' ⟨s2,hD',rfl,v,rfl⟩
   rw [List.length_map,List.take_of_length_le (Nat.le_refl _)] at hD'
   refine ⟨" | ",D,(pdat hs).map htx,rfl,rfl,?_,?_,q _ s2⟩
   ·unfold pdat
    rw [List.map_map,List.map_map]
    exact SqL.of hD'
   ·refine joinOk_of (B:=20100) (fun y hy=>?_) ?_
    ·obtain ⟨d,hd,rfl⟩:=List.mem_map.mp hy
     exact htx_len (hP.ok d hd) (hP.n40 d hd)
    ·show ((pdat hs).map htx).length * 20100 + ((pdat hs).map htx).length * 3≤16777216
     unfold pdat
     rw [List.length_map,List.length_map]
     lia
end
end Own
set_option Elab.async false
set_option linter.all false
set_option maxRecDepth 100000
set_option maxHeartbeats 4100000
namespace Own
open PySem L2
inductive Sp_readdeed (K:PySem.W.Frag) (vs:List V) (H:Hp) (Q:VK) (E_:XK):Prop
 | mk (d:Dat) (h0_:vs=[.str (dtx d)]) (h1_:DOkD d) (h2_:∀ (x:Dd) H',Same H H'→IsD K H' x→x.d=d→Q (.ref x.a) H'):Sp_readdeed K vs H Q E_
noncomputable def sp_readdeed (K:PySem.W.Frag):Sp:=Sp_readdeed K
inductive Sp_readhand (K:PySem.W.Frag) (vs:List V) (H:Hp) (Q:VK) (E_:XK):Prop
 | mk (ds:List Dat) (h0_:vs=[.str (htx ds)]) (h1_:(∀ d∈ds,DOkD d)) (h2_:(htx ds).length≤150000) (h3_:∀ l (xs:List Dd) H',Same H H'→H l=none→H' l=some (.lst (xs.map fun x=>V.ref x.a))→(∀ x∈xs,IsD K H' x)→dat xs=ds→Q (.ref l) H'):Sp_readhand K vs H Q E_
noncomputable def sp_readhand (K:PySem.W.Frag):Sp:=Sp_readhand K
noncomputable def greatT (l:List Str):Prop:=6 < l.length∨40 < manyOf l
noncomputable def spx_read (K:PySem.W.Frag):Sp:=fun vs H Q E=>∃ (z:Str),vs=[.str z]∧z.length≤150000 ∧
 (∀ k:Nat,badAt (Txt.split z " | ")=some k→∀ dx H',Same H H'→H' dx=some (.xd [("hand",.int k)])→E (.ref (cA K "NoText")) (some dx) H') ∧
 (badAt (Txt.split z " | ")=none→greatT (Txt.split z " | ")→∀ H',Same H H'→E (.ref (cA K "TooGreat")) none H') ∧
 (badAt (Txt.split z " | ")=none→¬ greatT (Txt.split z " | ")→∀ p ps H',Same H H'→IsP K H' p ps→ptx (pdat ps)=z→Q (.ref p) H')
inductive Sp_NoTextinit (K:PySem.W.Frag) (vs:List V) (H:Hp) (Q:VK) (E_:XK):Prop
 | mk (a:Addr) (t:Addr) (n:Int) (h0_:vs=[.ref a,.int n]) (h1_:H a=some (ExO a (excObj (.ref (cA K "NoText")) none t))) (h2_:∀ dx,H dx=none→dx≠a→Q .non (upd (upd H dx (.xd [("hand",.int n)])) a (ExO a (excObj (.ref (cA K "NoText")) (some dx) t)))):Sp_NoTextinit K vs H Q E_
noncomputable def sp_NoTextinit (K:PySem.W.Frag):Sp:=Sp_NoTextinit K
theorem xd_same {H1:Hp} {a dx:Addr} {e0 e1 o:HO} (na:H1 a=none) (nd:upd H1 a e0 dx=none) (ne:dx≠a):Same H1 (del (upd (upd (upd H1 a e0) dx o) a e1) a)∧del (upd (upd (upd H1 a e0) dx o) a e1) a dx=some o:=by
 rw [upd_ne ne] at nd
 refine ⟨fun b u e=>?_,by rw [del_ne ne,upd_ne ne,upd_same]⟩
 have n1:=ne_of_none e na
 rw [del_ne n1,upd_ne n1,upd_ne (ne_of_none e nd),upd_ne n1]
 exact e
theorem bad_at {l:List Str} {i:Nat} {u:Str} (h:l[i]?=some u) (hu:isHandT u=false) (hp:∀ j,j < i→∀ y,l[j]?=some y→isHandT y=true):badAt l=some i:=by
 obtain ⟨hi,e⟩:=List.getElem?_eq_some_iff.mp h
 refine List.findIdx?_eq_some_iff_getElem.mpr ⟨hi,by rw [e,hu]; rfl,fun j hj=>?_⟩
 rw [hp j hj _ (List.getElem?_eq_getElem (by lia))]
 exact Bool.false_ne_true
theorem bad_no {l:List Str} (h:∀ j,j < l.length→∀ y,l[j]?=some y→isHandT y=true):badAt l=none:=by
 refine List.findIdx?_eq_none_iff.mpr fun z hz=>?_
 obtain ⟨j,hj,e⟩:=List.mem_iff_getElem.mp hz
 rw [h j hj z (by rw [List.getElem?_eq_getElem hj,e])]
 rfl
theorem wtx_get {d:Dat} {i:Nat} {v:V} (h:((wtx d).map V.str)[i]?=some v):∃ u,(d.1 ++ d.2)[i]?=some u∧v=.str u.t:=by
 obtain ⟨z,hz,rfl⟩:=refs_get h
 unfold wtx at hz
 rw [List.getElem?_map] at hz
 cases e:(d.1 ++ d.2)[i]? with
 | none=>rw [e] at hz; cases hz
 | some u=>rw [e] at hz; exact ⟨u,rfl,by rw [← Option.some.inj hz]⟩
section
variable {P:Program} {w:World} {K:PySem.W.Frag} {mg:Str→Option Value} {base:Heap}
theorem sc_readdeed:FnScope ["text","words","values","size","guard"] ["text"] (defScope s_readdeed):=⟨rfl,rfl,rfl,by decide +kernel,rfl,by decide +kernel,by decide +kernel⟩
theorem ok_readdeed {f:Addr} {fd:FuncData} (F:Fun K "read_deed" "read_deed" s_readdeed f fd) (T:Txt K mg) (h_deedsize:Has P w K mg base 1 "deed_size" ["words"] (sp_deedsize K)) (h_isnumber:Has P w K mg base 2 "is_number" ["word"] (sp_isnumber K)):FnOk P w K mg base CX0 3 f fd ["text"] (sp_readdeed K):=by
 refine F.ok (k:=2) sc_readdeed (fun vs H Q E h=>?_) (fun cdv A outer s H vs Q E hr h=>?_)
 ·obtain ⟨d,rfl,_⟩:=h
  rfl
 ·obtain ⟨d,rfl,hok,q⟩:=h
  refine ⟨_,(pss_cons (ps_set (i:=1) sc_readdeed.nd rfl (Or.inl rfl) (pe_bm PySem.F.plainAttrs_str PySem.F.slot_str_split PySem.F.type_str_split mt_split (pv 0) (pa_cons pe_str pa_nil)))
   (pss_cons (ps_comp (i:=2) (Nc:=["word"]) (nt:=1) (js:=[]) rfl sc_readdeed.nd rfl rfl ⟨rfl,rfl,rfl,rfl,.nil,rfl,⟨["word"],[],rfl,rfl,.nil⟩⟩ (pi_list (pv 1)) (fun C s3 H3 fp pins=>⟨(pg_name (i:=0) (show (["word"]:List Str).Nodup by decide +kernel) rfl (Or.inl rfl)),pts_nil,(pe_cut (pe_ifExp (pt_val (pe_fn h_isnumber (hr.mono (by decide)) (pa_cons (pv 0) pa_nil))) (pe_callTy call_int_text rfl T.n_int bt_int (pa_cons (pv 0) pa_nil)) (pv 0)))⟩))
   (pss_cons (ps_set (i:=3) sc_readdeed.nd rfl (Or.inl rfl) (pe_fn h_deedsize (hr.mono (by decide)) (pa_cons (pv 1) pa_nil)))
   (pss_cons (ps_set (i:=4) sc_readdeed.nd rfl (Or.inl rfl) (pe_cut (pe_ifExp (pt_cmpR op_gt (pe_callB call_len_seq rfl T.n_len bt_len (pa_cons (pv 2) pa_nil)) (pv 3) (nomark _)) (pe_callTy call_tuple_of rfl T.n_tuple bt_tuple (pa_cons (pe_slice sl_list (pv 2) (po_some (pv 3)) po_none) pa_nil)) pe_non)))
   (pss_one (ps_ret (pe_callTy call_tuple_of rfl T.n_tuple bt_tuple (pa_cons (pe_op op_cat (pe_slice sl_list (pv 2) po_none (po_some (pv 3))) (pe_lst (pa_cons (pv 4) pa_nil))) pa_nil)))))))),?_⟩
  have hl:=dtx_len hok
  have hl7:=hok.len
  rw [List.length_append] at hl7
  refine ⟨_,rfl,rfl,dtx d," ",rfl,rfl,rfl,Nat.le_of_lt (small1000 (by lia)),fun l hll=>?_⟩
  rw [dtx_split hok]
  have s1:Same H (upd H l (.lst ((wtx d).map V.str))):=Same.new hll
  have hL:SqL K (upd H l (.lst ((wtx d).map V.str))) l ((wtx d).map V.str):=SqL.new
  generalize upd H l (.lst ((wtx d).map V.str))=H1 at s1 hL
  refine ⟨_,rfl,l,rfl,⟨_,hL⟩,fun D hD=>comp_list (xs:=(wtx d).map V.str) (fun i σ ys H'=>Same H1 H'∧H' D=some (.lst ys)∧ys=((d.1 ++ d.2).take i).map Wd.v∧∃ v,σ=[v]) ?_ ?_ ?_ ?_ ?_⟩
  ·exact ⟨Same.new hD,upd_same,rfl,none,rfl⟩
  ·rintro i σ ys H' hi ⟨s2,hD',rfl,v,rfl⟩
   refine ⟨s2.seq hL,hD',?_⟩
   rw [List.length_map,List.length_take]
   lia
  ·have:=(wtx_len hok).2
   rw [List.length_map]; exact Nat.le_of_lt (small1000 (by lia))
  ·rintro i y σ ys H' hy ⟨s2,hD',rfl,v,rfl⟩
   obtain ⟨u,hu,rfl⟩:=wtx_get hy
   have huo:=hok.ok u (List.mem_of_getElem? hu)
   have hsg:=ok_signs huo
   refine ⟨fun v H2=>Same H' H2∧v=u.v,?_,?_⟩
   ·refine ⟨_,rfl,u.t,rfl,by lia,fun H2 s3=>⟨_,rfl,ifB (fun c=>?_) (fun c=>?_)⟩⟩
    ·cases u with
     | s z =>
      have hn:isNum z=false:=isNum_nam huo
      have c':isNum z=true:=c
      rw [hn] at c'; cases c'
     | n k=>exact ⟨_,rfl,numT k,k,rfl,num_back k huo,by have:=num_len k huo; lia,s3,rfl⟩
    ·cases u with
     | s z=>exact ⟨_,rfl,s3,rfl⟩
     | n k =>
      have hn:isNum (numT k)=true:=isNum_num k huo
      have c':isNum (numT k)=false:=c
      rw [hn] at c'; cases c'
   ·rintro v H2 ⟨s3,rfl⟩
    refine ⟨s3 _ _ hD',Same.at hD (s2.trans s3),upd_same,?_,_,rfl⟩
    rw [take_map_succ hu]
  ·rintro σ ys H' ⟨s2,hD',rfl,v,rfl⟩
   have elen:((wtx d).map V.str).length=(d.1 ++ d.2).length:=by unfold wtx; rw [List.length_map,List.length_map]
   rw [elen,List.take_of_length_le (Nat.le_refl _)] at hD'
   obtain ⟨k,sh,rest,ek,hsh,hfit⟩:=hok.d
   have ew:wtx d=k :: (rest ++ d.2).map Wd.t:=by
    unfold wtx
    rw [ek,List.cons_append,List.map_cons]; rfl
   have hlf:=hfit.len
   have hl1:d.1.length=1 + sh.length:=by rw [ek,List.length_cons,hlf]; lia
   have hLk:=s2.seq hL
   rw [ew] at hLk
   refine ⟨_,rfl,l,k,_,sh,rfl,hLk,hsh,?_⟩
   have ec:(1:Int) + (sh.length:Int)=((d.1.length:Nat):Int):=by lia
   rw [ec]
   have hDs:SqL K H' D ((d.1 ++ d.2).map Wd.v):=SqL.of hD'
   refine ⟨fun v H2=>Same H' H2∧isG K H2 v d.2,?_,?_⟩
   ·refine ⟨_,rfl,D,_,rfl,.inl hDs,_,rfl,_,_,rfl,rfl,_,rfl,ite2 (fun c=>?_) (fun c=>?_)⟩
    ·have c':=of_decide_eq_true c
     rw [List.length_map,List.length_append] at c'
     refine ⟨_,rfl,_,rfl,_,rfl,D,_,rfl,hDs,fun p hp=>⟨p,_,rfl,.inl ⟨SqL.new,fun t ht=>⟨(Same.new hp).then ht,.inr ⟨?_,t,rfl,?_⟩⟩⟩⟩⟩
     ·intro z
      rw [z] at c'
      simp at c'
     ·rw [cut_from,List.map_append,← List.length_map (f:=Wd.v),List.drop_left]
      exact SqT.new
    ·have c':¬ ((d.1.length:Int) < (((d.1 ++ d.2).map Wd.v).length:Int)):=fun z=>c (decide_eq_true z)
     rw [List.length_map,List.length_append] at c'
     refine ⟨Same.refl _,.inl ⟨?_,rfl⟩⟩
     cases e:d.2 with
     | nil=>rfl
     | cons a b=>rw [e] at c'; simp at c'; lia
   ·rintro gv H2 ⟨s3,hg⟩
    refine ⟨_,rfl,_,rfl,_,rfl,D,_,rfl,s3.seq hDs,fun p hp=>?_⟩
    have e1:cutV ((d.1 ++ d.2).map Wd.v) none (some (d.1.length:Int))=d.1.map Wd.v:=by
     rw [cut_to,List.map_append,← List.length_map (f:=Wd.v),List.take_left]
    rw [e1]
    have s4:Same H2 (upd H2 p (.lst (d.1.map Wd.v))):=Same.new hp
    refine ⟨_,rfl,by show 1≤sizeLine; decide,fun l2 hl2=>?_⟩
    have s5:Same (upd H2 p (.lst (d.1.map Wd.v))) (upd (upd H2 p (.lst (d.1.map Wd.v))) l2 (.lst [gv])):=Same.new hl2
    refine ⟨p,l2,_,_,rfl,rfl,s5 _ _ upd_same,upd_same,?_,fun p3 hp3=>⟨p3,_,rfl,.inl ⟨SqL.new,fun t ht=>?_⟩⟩⟩
    ·rw [List.length_map]
     exact Nat.le_of_lt (small1000 (by show d.1.length + 1≤1000; lia))
    ·have s6:=s5.then (o:=.lst (d.1.map Wd.v ++ [gv])) hp3
     have s7:=s6.then (o:=.tup (d.1.map Wd.v ++ [gv])) ht
     exact q ⟨t,d⟩ _ (s1.trans (s2.trans (s3.trans (s4.trans s7)))) ⟨⟨gv,SqT.new,hg.same (s4.trans s7)⟩,hok⟩ rfl
theorem sc_readhand:FnScope ["text"] ["text"] (defScope s_readhand):=⟨rfl,rfl,rfl,by decide +kernel,rfl,by decide +kernel,by decide +kernel⟩
theorem ok_readhand {f:Addr} {fd:FuncData} (F:Fun K "read_hand" "read_hand" s_readhand f fd) (T:Txt K mg) (h_readdeed:Has P w K mg base 3 "read_deed" ["text"] (sp_readdeed K)):FnOk P w K mg base CX0 4 f fd ["text"] (sp_readhand K):=by
 refine F.ok (k:=3) sc_readhand (fun vs H Q E h=>?_) (fun cdv A outer s H vs Q E hr h=>?_)
 ·obtain ⟨ds,rfl,_⟩:=h
  rfl
 ·obtain ⟨ds,rfl,hok,hn,q⟩:=h
  refine ⟨_,(pss_one (ps_ret (pe_cut (pe_ifExp (pt_cmpR op_eq (pv 0) pe_str (nomark _)) (pe_lst pa_nil) (pe_comp (Nc:=["part"]) (nt:=1) (js:=[]) rfl ⟨rfl,rfl,rfl,rfl,.nil,rfl,⟨["part"],[],rfl,rfl,.nil⟩⟩ (pi_list (pe_bm PySem.F.plainAttrs_str PySem.F.slot_str_split PySem.F.type_str_split mt_split (pv 0) (pa_cons pe_str pa_nil))) (fun C s3 H3 fp pins=>⟨(pg_name (i:=0) (show (["part"]:List Str).Nodup by decide +kernel) rfl (Or.inl rfl)),pts_nil,(pe_fn h_readdeed (hr.mono (by decide)) (pa_cons (pv 0) pa_nil))⟩)))))),?_⟩
  refine ⟨fun v H'=>Ex_2_6 (fun (l:Addr) (xs:List Dd)=>v=.ref l) (fun l xs=>Same H H') (fun l xs=>H l=none) (fun l xs=>H' l=some (.lst (xs.map fun x=>V.ref x.a))) (fun l xs=>(∀ x∈xs,IsD K H' x)) (fun l xs=>dat xs=ds),?_,?_⟩
  ·refine ⟨_,rfl,rfl,_,rfl,ifB (fun c=>?_) (fun c=>?_)⟩
   ·have e:ds=[]:=Classical.byContradiction fun z=>htx_not hok z (by simpa using c)
    exact ⟨by decide,fun l hl=>⟨l,[],rfl,Same.new hl,hl,upd_same,(fun x hx=>by cases hx),e.symm⟩⟩
   ·have hne:ds≠[]:=fun z=>by subst z; simp [htx] at c
    have hl:=hn
    have hds:ds.length≤150002:=by
     have:=split_len (htx ds) "; "
     rw [(htx_split hok hne).2,List.length_map] at this
     lia
    refine ⟨_,rfl,rfl,htx ds,"; ",rfl,rfl,rfl,Nat.le_of_lt (big_ok (by lia)),fun l0 hl0=>?_⟩
    rw [(htx_split hok hne).2]
    have s1:Same H (upd H l0 (.lst ((ds.map dtx).map V.str))):=Same.new hl0
    have hL:SqL K (upd H l0 (.lst ((ds.map dtx).map V.str))) l0 ((ds.map dtx).map V.str):=SqL.new
    generalize upd H l0 (.lst ((ds.map dtx).map V.str))=H1 at s1 hL
    refine ⟨l0,rfl,⟨_,hL⟩,fun D hD=>comp_list (xs:=(ds.map dtx).map V.str) (fun i σ ys H'=>Ex_2_6 (fun (xs:List Dd) (v:Option V)=>Same H1 H') (fun xs v=>H' D=some (.lst ys)) (fun xs v=>ys=xs.map (fun x=>V.ref x.a)) (fun xs v=>(∀ x∈xs,IsD K H' x)) (fun xs v=>dat xs=ds.take i) (fun xs v=>σ=[v])) ?_ ?_ ?_ ?_ ?_⟩
    ·exact ⟨[],none,Same.new hD,upd_same,rfl,(fun x hx=>by cases hx),rfl,rfl⟩
    ·rintro i σ ys H' hi ⟨xs,v,s2,hD',rfl,hxs,e,rfl⟩
     refine ⟨s2.seq hL,hD',?_⟩
     have:=congrArg List.length e
     unfold dat at this
     rw [List.length_map,List.length_take] at this
     rw [List.length_map]
     lia
    ·rw [List.length_map,List.length_map]; exact Nat.le_of_lt (big_ok (by lia))
    ·rintro i y σ ys H' hy ⟨xs,v,s2,hD',rfl,hxs,e,rfl⟩
     obtain ⟨z,hz,rfl⟩:=refs_get hy
     rw [List.getElem?_map] at hz
     cases ed:ds[i]? with
     | none=>rw [ed] at hz; cases hz
     | some d =>
      rw [ed] at hz
      have ez:dtx d=z:=Option.some.inj hz
      subst ez
      refine ⟨_,rfl,d,rfl,hok d (List.mem_of_getElem? ed),fun x H2 s3 hx ex=>⟨s3 _ _ hD',xs ++ [x],_,Same.at hD (s2.trans s3),upd_same,by rw [List.map_append]; rfl,fun x' hx'=>?_,?_,rfl⟩⟩
      ·rcases List.mem_append.mp hx' with hx' | hx'
       ·exact ((hxs x' hx').same s3).lset (s3 _ _ hD')
       ·rw [List.mem_singleton.mp hx']
        exact hx.lset (s3 _ _ hD')
      ·unfold dat at e ⊢
       rw [List.map_append,e,List.take_add_one,ed,List.map_singleton,ex]; rfl
    ·rintro σ ys H' ⟨xs,v,s2,hD',rfl,hxs,e,rfl⟩
     rw [List.length_map,List.length_map,List.take_of_length_le (Nat.le_refl _)] at e
     exact ⟨D,xs,rfl,s1.trans s2,s1.free hD,hD',hxs,e⟩
  ·rintro v H1 ⟨l,xs,rfl,s1,h1,h2,h3,h4⟩
   exact q l xs H1 s1 h1 h2 h3 h4
theorem sc_NoTextinit:FnScope ["self","hand"] ["self","hand"] (defScope s_NoTextinit):=⟨rfl,rfl,rfl,by decide +kernel,rfl,by decide +kernel,by decide +kernel⟩
theorem ok_NoTextinit {f:Addr} {fd:FuncData} (F:Fun K "__init__" "NoText.__init__" s_NoTextinit f fd) (T:Txt K mg) :FnOk P w K mg base CX0 1 f fd ["self","hand"] (sp_NoTextinit K):=by
 refine F.ok (k:=0) sc_NoTextinit (fun vs H Q E h=>?_) (fun cdv A outer s H vs Q E hr h=>?_)
 ·obtain ⟨a,t,n,rfl,_⟩:=h
  rfl
 ·obtain ⟨a,t,n,rfl,ha,q⟩:=h
  refine ⟨_,(pss_one (ps_xset (pv 0) (pv 1) rfl)),?_⟩
  exact ⟨_,rfl,_,rfl,a,_,t,rfl,ha,T.xa_NoText,xcls_of T.xc_NoText,T.na_hand,fun dx hd ne=>q dx hd ne⟩
theorem sc_read:FnScope ["text","hands","h","hand","program"] ["text"] (defScope s_read):=⟨rfl,rfl,rfl,by decide +kernel,rfl,by decide +kernel,by decide +kernel⟩
theorem okx_read {f:Addr} {fd:FuncData} (F:Fun K "read" "read" s_read f fd) (T:Txt K mg) (h_readhand:Has P w K mg base 4 "read_hand" ["text"] (sp_readhand K)) (h_ishand:Has P w K mg base 6 "is_hand" ["text"] (sp_ishand K)) (h_NoTextinit:HasE P w K mg base 1 "NoText" ["self","hand"] (sp_NoTextinit K)):FnOk P w K mg base (CXD P w) 7 f fd ["text"] (spx_read K):=by
 refine F.okd (k:=6) sc_read (fun vs H Q E h=>?_) (fun cdv A outer s H vs Q E hr h=>?_)
 ·obtain ⟨z,rfl,_⟩:=h
  rfl
 ·obtain ⟨z,rfl,hz,qN,qG,qO⟩:=h
  refine ⟨_,(pss_cons (ps_set (i:=1) sc_read.nd rfl (Or.inl rfl) (pe_bm PySem.F.plainAttrs_str PySem.F.slot_str_split PySem.F.type_str_split mt_split (pv 0) (pa_cons pe_str pa_nil)))
   (pss_cons (ps_for PassesOwn.leaving rfl (pi_enum rfl T.n_enumerate (pa_cons (pv 1) pa_nil)) (pg_tup rfl (pgs_cons (pg_name (i:=2) sc_read.nd rfl (Or.inl rfl)) (pgs_cons (pg_name (i:=3) sc_read.nd rfl (Or.inl rfl)) pgs_nil)))
   (pss_one (ps_if (pt_not (pt_val (pe_fn h_ishand (hr.mono (by decide)) (pa_cons (pv 3) pa_nil))))
   (pss_one (ps_raiseE leaves_cxd rfl (pe_mkx h_NoTextinit (hr.mono (by decide)) (pa_cons (pv 2) pa_nil))))
   pss_nil)))
   (pss_cons (ps_comp (i:=4) (Nc:=["hand"]) (nt:=1) (js:=[]) rfl sc_read.nd rfl rfl ⟨rfl,rfl,rfl,rfl,.nil,rfl,⟨["hand"],[],rfl,rfl,.nil⟩⟩ (pi_list (pv 1)) (fun C s3 H3 fp pins=>⟨(pg_name (i:=0) (show (["hand"]:List Str).Nodup by decide +kernel) rfl (Or.inl rfl)),pts_nil,(pe_fn h_readhand (hr.mono (by decide)) (pa_cons (pv 0) pa_nil))⟩))
   (pss_cons (ps_if (PW.pt (pw_or (pt_cmpR op_gt (pe_callB call_len_seq rfl T.n_len bt_len (pa_cons (pv 4) pa_nil)) (pe_globI rfl T.g_MOST_HANDS) (nomark _)) (pw_or1 (pt_cmpR op_gt (pe_callB (call_sum_ints rfl) rfl T.n_sum bt_sum (pa_cons (pe_comp (Nc:=["hand"]) (nt:=1) (js:=[]) rfl ⟨rfl,rfl,rfl,rfl,.nil,rfl,⟨["hand"],[],rfl,rfl,.nil⟩⟩ (pi_list (pv 4)) (fun C s3 H3 fp pins=>⟨(pg_name (i:=0) (show (["hand"]:List Str).Nodup by decide +kernel) rfl (Or.inl rfl)),pts_nil,(pe_callB (call_len_seqK (K:=K) rfl) rfl T.n_len bt_len (pa_cons (pv 0) pa_nil))⟩)) pa_nil)) (pe_globI rfl T.g_MOST_DEEDS) (nomark _)))))
   (pss_one (ps_raiseE leaves_cxd rfl (pe_mkx0 T.x_TooGreat T.xn_TooGreat T.xp_TooGreat (pa_cons pe_str pa_nil))))
   pss_nil)
   (pss_one (ps_ret (pv 4))))))),?_⟩
  have hparts:=split_part z " | "
  have hcount:=split_len z " | "
  have hback:=text_back (z:=z)
  refine ⟨_,rfl,rfl,z," | ",rfl,rfl,rfl,(Nat.le_of_lt (big_ok (by lia))),fun l0 hl0=>?_⟩
  generalize Txt.split z " | "=L at hparts hcount hback qN qG qO
  have s1:Same H (upd H l0 (.lst (L.map V.str))):=Same.new hl0
  have hL:SqL K (upd H l0 (.lst (L.map V.str))) l0 (L.map V.str):=SqL.new
  generalize upd H l0 (.lst (L.map V.str))=H1 at s1 hL
  refine ⟨_,rfl,l0,rfl,⟨_,hL⟩,for_enum (xs:=L.map V.str) (fun i σ H'=>Ex_2_3 (fun (v2 v3:Option V)=>Same H1 H') (fun v2 v3=>(∀ j,j < i→∀ y,L[j]?=some y→isHandT y=true)) (fun v2 v3=>σ=[some (.str z),some (.ref l0),v2,v3,none])) ?_ ?_ ?_ ?_⟩
  ·exact ⟨none,none,Same.refl _,(fun j hj=>absurd hj (Nat.not_lt_zero _)),rfl⟩
  ·rintro i σ H' _ ⟨v2,v3,s2,_⟩
   exact s2.seq hL
  ·rintro i y σ H' pp hy ⟨v2,v3,s2,hj,rfl⟩ hpp
   obtain ⟨u,hu,rfl⟩:=refs_get hy
   have hul:=hparts u (List.mem_of_getElem? hu)
   have s3:Same H' (upd H' pp (.tup [.int i,.str u])):=Same.new hpp
   refine ⟨pp,_,rfl,SqT.new,rfl,_,_,rfl,_,_,rfl,rfl,?_⟩
   refine ⟨_,rfl,u,rfl,by lia,fun H2 s4=>⟨_,rfl,ifB (fun c=>?_) (fun c=>?_)⟩⟩
   ·have s5:=s1.trans (s2.trans (s3.trans s4))
    refine ⟨_,rfl,(by show 1≤sizeLine; decide),fun a tp na=>⟨a,tp,i,rfl,upd_same,fun dx nd ne=>⟨rfl,a,_,some dx,tp,rfl,upd_same,s5.free na,T.xa_NoText,?_⟩⟩⟩
    obtain ⟨x1,x2⟩:=xd_same na nd ne
    exact qN i (bad_at hu (by simpa using c) hj) dx _ (s5.trans x1) x2
   ·refine ⟨_,_,s2.trans (s3.trans s4),fun j hj' w hw=>?_,rfl⟩
    by_cases e:j < i
    ·exact hj j e w hw
    ·have ej:j=i:=by lia
     rw [ej,hu] at hw
     cases hw
     simpa using c
  ·rintro σ H2 ⟨v2,v3,s2,hj,rfl⟩
   rw [List.length_map] at hj
   have hbad:=bad_no hj
   obtain ⟨hs,hne,hok,rfl,hzt⟩:=hback (bad_none hbad)
   have hn:hs.length≤150002:=by rw [List.length_map] at hcount; lia
   have hlen:∀ ds∈hs,(htx ds).length≤150000:=fun ds hd=>Nat.le_trans (hparts _ (List.mem_map_of_mem hd)) hz
   have part:∀ {i:Nat} {y:V},((hs.map htx).map V.str)[i]?=some y→∃ ds,hs[i]?=some ds∧y=.str (htx ds):=fun {i y} hy=>by
    obtain ⟨z,hz,rfl⟩:=refs_get hy
    rw [List.getElem?_map] at hz
    cases ed:hs[i]? with
    | none=>rw [ed] at hz; cases hz
    | some ds=>rw [ed] at hz; exact ⟨ds,rfl,by rw [← Option.some.inj hz]⟩
   refine ⟨_,rfl,l0,rfl,⟨_,s2.seq hL⟩,fun D hD=>comp_list (xs:=(hs.map htx).map V.str) (fun i σ ys H'=>Ex_2_6 (fun (ps:Hands) (v:Option V)=>Same H2 H') (fun ps v=>H' D=some (.lst ys)) (fun ps v=>ys=ps.map (fun h=>V.ref h.1)) (fun ps v=>(∀ h∈ps,H' h.1=some (.lst (h.2.map fun x=>V.ref x.a))∧h.1≠D∧∀ x∈h.2,IsD K H' x)) (fun ps v=>pdat ps=hs.take i) (fun ps v=>σ=[v])) ?_ ?_ ?_ ?_ ?_⟩
   ·exact ⟨[],none,Same.new hD,upd_same,rfl,(fun x hx=>by cases hx),rfl,rfl⟩
   ·rintro i σ ys H' hi ⟨ps,v,s3,hD',rfl,hps,e,rfl⟩
    refine ⟨(s2.trans s3).seq hL,hD',?_⟩
    have:=congrArg List.length e
    unfold pdat at this
    rw [List.length_map,List.length_take] at this
    rw [List.length_map]
    lia
   ·rw [List.length_map,List.length_map]; exact Nat.le_of_lt (big_ok (by lia))
   ·rintro i y σ ys H' hy ⟨ps,v,s3,hD',rfl,hps,e,rfl⟩
    obtain ⟨ds,hds',rfl⟩:=part hy
    have hm:=List.mem_of_getElem? hds'
    refine ⟨_,rfl,ds,rfl,hok ds hm,hlen ds hm,fun l xs H3 s4 hl hl3 hx ex=>?_⟩
    have hlD:l≠D:=fun z=>by rw [z,hD'] at hl; cases hl
    refine ⟨s4 _ _ hD',ps ++ [(l,xs)],_,Same.at hD (s3.trans s4),upd_same,by rw [List.map_append]; rfl,fun h hh=>?_,?_,rfl⟩
    ·rcases List.mem_append.mp hh with hh | hh
     ·obtain ⟨a1,a3,a4⟩:=hps h hh
      exact ⟨by rw [upd_ne a3]; exact s4 _ _ a1,a3,fun x hx'=>((a4 x hx').same s4).lset (s4 _ _ hD')⟩
     ·rw [List.mem_singleton.mp hh]
      exact ⟨by show upd H3 D _ l=_; rw [upd_ne hlD]; exact hl3,hlD,fun x hx'=>(hx x hx').lset (s4 _ _ hD')⟩
    ·unfold pdat at e ⊢
     rw [List.map_append,e,List.take_add_one,hds',List.map_singleton,ex]; rfl
   ·rintro σ ys H3 ⟨ps,v,s3,hD',rfl,hps,e,rfl⟩
    rw [List.length_map,List.length_map,List.take_of_length_le (Nat.le_refl _)] at e
    have hpl:ps.length=hs.length:=by
     have:=congrArg List.length e
     unfold pdat at this
     rwa [List.length_map] at this
    have s13:=s1.trans (s2.trans s3)
    have great:∀ {H4:Hp},Same H H4→greatT (hs.map htx)→∀ a tp,H4 a=none→Ex_4_5 (fun a' C dx t=>V.ref a=.ref a') (fun a' C dx t=>upd H4 a (ExO a (excObj (.ref (cA K "TooGreat")) none tp)) a'=some (ExO a' (excObj (.ref C) dx t))) (fun a' C dx t=>H a'=none) (fun a' C dx t=>(∃ ini,excAny K C veB "ValueError.__new__" ini=true)) (fun a' C dx t=>E (.ref C) dx (del (upd H4 a (ExO a (excObj (.ref (cA K "TooGreat")) none tp))) a')):=fun {H4} s4 hg a tp na =>
     ⟨a,_,none,tp,rfl,upd_same,s4.free na,T.xa_TooGreat,qG hbad hg _ (s4.trans ((Same.new na).del na))⟩
    have esum:(ps.map fun h=>(h.2.length:Int)).sum=((manyOf (hs.map htx):Nat):Int):=by
     rw [many_htx hok,← e]
     unfold pdat dat
     rw [List.map_map]
     clear e hpl great hps hD'
     induction ps with
     | nil=>rfl
     | cons h ps ih =>
      rw [List.map_cons,List.sum_cons,List.map_cons,List.sum_cons,ih]
      show (h.2.length:Int) + _=(((h.2.map (·.d)).length + _:Nat):Int)
      rw [List.length_map]
      lia
    refine ⟨_,rfl,D,_,rfl,.inl (SqL.of hD'),_,_,rfl,rfl,_,rfl,ifD (fun c6=>?_) (fun c6=>?_)⟩
    ·rw [List.length_map] at c6
     refine ifT rfl ⟨(by show 1≤sizeLine; decide),great s13 (.inl (by rw [List.length_map]; lia))⟩
    rw [List.length_map] at c6
    refine ⟨_,rfl,D,rfl,⟨_,SqL.of hD'⟩,fun D2 hD2=>comp_list (xs:=ps.map fun h=>V.ref h.1) (fun i σ ys H'=>Same H3 H'∧H' D2=some (.lst ys)∧ys=(ps.take i).map (fun h=>V.int (h.2.length:Int))∧∃ v,σ=[v]) ?_ ?_ ?_ ?_ ?_⟩
    ·exact ⟨Same.new hD2,upd_same,rfl,none,rfl⟩
    ·rintro i σ ys H' hi ⟨s4,hD2',rfl,v,rfl⟩
     refine ⟨SqL.of (s4 _ _ hD'),hD2',?_⟩
     rw [List.length_map,List.length_take]
     lia
    ·rw [List.length_map]; exact Nat.le_of_lt (small1000 (by lia))
    ·rintro i y σ ys H' hy ⟨s4,hD2',rfl,v,rfl⟩
     obtain ⟨h,hh,rfl⟩:=refs_get hy
     have hh3:=(hps h (List.mem_of_getElem? hh)).1
     refine ⟨_,rfl,h.1,_,rfl,.inl (SqL.of (s4 _ _ hh3)),hD2',Same.at hD2 s4,upd_same,?_,_,rfl⟩
     rw [take_map_succ hh,List.length_map]
    ·rintro σ ys H4 ⟨s4,hD2',rfl,v,rfl⟩
     rw [List.length_map,List.take_of_length_le (Nat.le_refl _)] at hD2'
     have s14:=s13.trans s4
     refine ⟨D2,ps.map fun h=>(h.2.length:Int),rfl,?_,_,_,rfl,rfl,_,rfl,ifD (fun c40=>?_) (fun c40=>?_)⟩
     ·rw [List.map_map]; exact SqL.of hD2'
     ·rw [esum] at c40
      exact ⟨(by show 1≤sizeLine; decide),great s14 (.inr (by lia))⟩
     ·rw [esum] at c40
      have hng:¬ greatT (hs.map htx):=fun z=>by
       rcases z with z | z
       ·rw [List.length_map] at z; lia
       ·lia
      have h40:∀ h∈ps,h.2.length≤40:=fun h hh=>by
       have hk:∀ l:Hands,h∈l→(h.2.length:Int)≤(l.map fun h=>(h.2.length:Int)).sum:=fun l=>by
        induction l with
        | nil=>intro z; cases z
        | cons k l ih =>
         intro z
         have pos:∀ l:Hands,0≤(l.map fun h=>(h.2.length:Int)).sum:=fun l=>by
          induction l with
          | nil=>exact Int.le_refl _
          | cons k l ih=>rw [List.map_cons,List.sum_cons]; lia
         rw [List.map_cons,List.sum_cons]
         rcases List.mem_cons.mp z with rfl | z
         ·have:=pos l; lia
         ·have:=ih z; lia
       have:=hk ps hh
       rw [esum] at this
       lia
      refine ⟨_,rfl,qO hbad hng D ps H4 s14 ⟨SqL.of (s4 _ _ hD'),fun h hh=>?_,by lia⟩ (by rw [e,hzt])⟩
      obtain ⟨a1,_,a4⟩:=hps h hh
      exact ⟨SqL.of (s4 _ _ a1),fun x hx=>(a4 x hx).same s4,h40 h hh⟩
end
end Own
set_option Elab.async false
set_option linter.all false
set_option maxRecDepth 100000
set_option maxHeartbeats 4100000
namespace Own
open PySem L2
inductive Sp_Lcellat (K:PySem.W.Frag) (vs:List V) (H:Hp) (Q:VK) (E_:XK):Prop
 | mk (a:Addr) (ns:List Int) (k:Int) (h0_:vs=[.ref a,.int k]) (h1_:SqL K H a (ns.map V.int)) (h2_:0≤k) (h3_:Q (.int (ns.getD k.toNat 0)) H):Sp_Lcellat K vs H Q E_
noncomputable def sp_Lcellat (K:PySem.W.Frag):Sp:=Sp_Lcellat K
inductive Sp_Lname (K:PySem.W.Frag) (vs:List V) (H:Hp) (Q:VK) (E_:XK):Prop
 | mk (c:Int) (h0_:vs=[.int c]) (h1_:∀ x:Str,x.length≤8→Q (.str x) H):Sp_Lname K vs H Q E_
noncomputable def sp_Lname (K:PySem.W.Frag):Sp:=Sp_Lname K
inductive Sp_Lnumber (K:PySem.W.Frag) (vs:List V) (H:Hp) (Q:VK) (E_:XK):Prop
 | mk (c:Int) (h0_:vs=[.int c]) (h1_:∀ x:Str,x.length≤61→Q (.str x) H):Sp_Lnumber K vs H Q E_
noncomputable def sp_Lnumber (K:PySem.W.Frag):Sp:=Sp_Lnumber K
inductive Sp_Lpart (K:PySem.W.Frag) (vs:List V) (H:Hp) (Q:VK) (E_:XK):Prop
 | mk (c:Int) (k:Int) (m:Int) (h0_:vs=[.int c,.int k,.int m]) (h1_:0≤k) (h2_:k < 8) (h3_:0 < m) (h4_:∀ r H',Same H H'→0≤r→r < m→Q (.int r) H'):Sp_Lpart K vs H Q E_
noncomputable def sp_Lpart (K:PySem.W.Frag):Sp:=Sp_Lpart K
inductive Sp_Lrow (K:PySem.W.Frag) (vs:List V) (H:Hp) (Q:VK) (E_:XK):Prop
 | mk (kd:Int) (o:Int) (t:Int) (h0_:vs=[.int kd,.int o,.int t]) (h1_:∀ (x:Str) H',Same H H'→x.length≤200→Q (.str x) H'):Sp_Lrow K vs H Q E_
noncomputable def sp_Lrow (K:PySem.W.Frag):Sp:=Sp_Lrow K
theorem len_one (c:Nat):(⟨#[c]⟩:Str).length=1:=rfl
theorem len_app (a b:Str):(a ++ b).length=a.length + b.length:=by rw [← sg_len,sg_app,List.length_append,sg_len,sg_len]
theorem letters_len:("abcdefghijklmnopqrstuvwxyz":Str).cps.toList.length=26:=by decide +kernel
theorem letters_fit:("abcdefghijklmnopqrstuvwxyz":Str).length≤sizeLine:=by rw [sizeLine_eq]; decide +kernel
theorem sign_at {x:Str} {i:Int} (h0:0≤i) (h1:i < x.length):∃ c,atI x.cps.toList i=some c:=by
 obtain ⟨j,rfl⟩:=Int.eq_ofNat_of_zero_le h0
 have hj:j < x.cps.toList.length:=by rw [show x.cps.toList.length=x.length from sg_len x]; lia
 exact ⟨_,atI_nat (List.getElem?_eq_getElem hj)⟩
theorem glue {a b:Str} {n:Nat} (h:(a ++ b).length≤n) (hn:n≤200000:=by decide):a.length + b.length≤sizeLine:=by
 rw [← len_app]
 exact Nat.le_of_lt (big_ok (by lia))
theorem glue_len {a b:Str} {m n:Nat} (h1:a.length≤m) (h2:b.length≤n):(a ++ b).length≤m + n:=by rw [len_app]; lia
theorem two_at {u v:Str} {i:Int} {n:Nat} (h0:0≤i) (h1:i < 2) (hu:u.length≤n) (hv:v.length≤n):∃ w:Str,atI [V.str u,.str v] i=some (.str w)∧w.length≤n:=by
 rcases (by lia:i=0∨i=1) with rfl | rfl
 ·exact ⟨u,rfl,hu⟩
 ·exact ⟨v,rfl,hv⟩
section
variable {P:Program} {w:World} {K:PySem.W.Frag} {mg:Str→Option Value} {base:Heap}
theorem sc_Lcellat:FnScope ["_law_script","_law_k"] ["_law_script","_law_k"] (defScope s_Lcellat):=⟨rfl,rfl,rfl,by decide +kernel,rfl,by decide +kernel,by decide +kernel⟩
theorem ok_Lcellat {f:Addr} {fd:FuncData} (F:Fun K "_law_cell_at" "_law_cell_at" s_Lcellat f fd) (T:Txt K mg) :FnOk P w K mg base CX0 1 f fd ["_law_script","_law_k"] (sp_Lcellat K):=by
 refine F.ok (k:=0) sc_Lcellat (fun vs H Q E h=>?_) (fun cdv A outer s H vs Q E hr h=>?_)
 ·obtain ⟨a,ns,k,rfl,_⟩:=h
  rfl
 ·obtain ⟨a,ns,k,rfl,hS,h0,q⟩:=h
  refine ⟨_,(pss_cons (ps_if (pt_cmpR op_lt (pv 1) (pe_callB call_len_seq rfl T.n_len bt_len (pa_cons (pv 0) pa_nil)) (nomark _))
   (pss_one (ps_ret (pe_ix ix_list (pv 0) (pv 1) (fun _ _=>rfl))))
   pss_nil)
   (pss_one (ps_ret pe_int))),?_⟩
  refine ⟨_,rfl,_,rfl,a,_,rfl,.inl hS,_,_,rfl,rfl,_,rfl,ite2 (fun c=>?_) (fun c=>?_)⟩
  ·have c':k < ((ns.map V.int).length:Int):=of_decide_eq_true c
   rw [List.length_map] at c'
   obtain ⟨j,rfl⟩:=Int.eq_ofNat_of_zero_le h0
   have hj:j < ns.length:=by lia
   refine ⟨_,rfl,_,rfl,a,_,_,_,rfl,rfl,hS,atI_nat (v:=V.int ns[j]) (by rw [List.getElem?_map,List.getElem?_eq_getElem hj]; rfl),?_⟩
   have e:ns.getD ((j:Int)).toNat 0=ns[j]:=by rw [Int.toNat_natCast,List.getD_eq_getElem?_getD,List.getElem?_eq_getElem hj]; rfl
   rw [e] at q
   exact q
  ·have c':¬ k < ((ns.map V.int).length:Int):=fun z=>c (decide_eq_true z)
   rw [List.length_map] at c'
   have e:ns.getD k.toNat 0=0:=by rw [List.getD_eq_getElem?_getD,List.getElem?_eq_none (by lia)]; rfl
   rw [e] at q
   exact q
theorem sc_Lname:FnScope ["_law_cell","_law_letters","_law_rest","_law_name_here","_law_k"] ["_law_cell"] (defScope s_Lname):=⟨rfl,rfl,rfl,by decide +kernel,rfl,by decide +kernel,by decide +kernel⟩
theorem ok_Lname {f:Addr} {fd:FuncData} (F:Fun K "_law_name" "_law_name" s_Lname f fd) (T:Txt K mg) :FnOk P w K mg base CX0 1 f fd ["_law_cell"] (sp_Lname K):=by
 refine F.ok (k:=0) sc_Lname (fun vs H Q E h=>?_) (fun cdv A outer s H vs Q E hr h=>?_)
 ·obtain ⟨c,rfl,_⟩:=h
  rfl
 ·obtain ⟨c,rfl,q⟩:=h
  refine ⟨_,(pss_cons (ps_set (i:=1) sc_Lname.nd rfl (Or.inl rfl) pe_str)
   (pss_cons (ps_set (i:=2) sc_Lname.nd rfl (Or.inl rfl) (pe_op op_mod (pe_op op_mul (pv 0) pe_int) pe_int))
   (pss_cons (ps_set (i:=3) sc_Lname.nd rfl (Or.inl rfl) pe_str)
   (pss_cons (ps_for PassesOwn.never rfl (pi_range1 rfl T.n_range (pa_cons (pe_op op_add pe_int (pe_op op_mod (pv 2) pe_int)) pa_nil)) (pg_name (i:=4) sc_Lname.nd rfl (Or.inl rfl))
   (pss_cons (ps_set (i:=2) sc_Lname.nd rfl (Or.inl rfl) (pe_op op_fdiv (pv 2) pe_int))
   (pss_one (ps_set (i:=3) sc_Lname.nd rfl (Or.inl rfl) (pe_op op_add_str (pv 3) (pe_ix ix_str (pv 1) (pe_op op_mod (pv 2) pe_int) (fun _ _=>rfl)))))))
   (pss_one (ps_ret (pv 3))))))),?_⟩
  have hb:(c * 982451653 % 1000000000039 % 8) < 8:=Int.emod_lt_of_pos _ (by decide)
  have hb0:0≤(c * 982451653 % 1000000000039 % 8):=Int.emod_nonneg _ (by decide)
  refine ⟨_,rfl,_,_,rfl,rfl,.inr ⟨by decide,by decide⟩,_,_,rfl,rfl,(by show (0:Int) < 1000000000039; decide),?_⟩
  refine ⟨_,rfl,_,_,rfl,rfl,(by show (0:Int) < 8; decide),_,_,rfl,rfl,_,rfl,by lia,by lia,for_range (n:=(1 + c * 982451653 % 1000000000039 % 8).toNat) (fun i σ H'=>H'=H∧Ex_3_2 (fun (r:Int) (x:Str) (v:Option V)=>σ=[some (.int c),some (.str "abcdefghijklmnopqrstuvwxyz"),some (.int r),some (.str x),v]) (fun r x v=>x.length≤i)) ?_ ?_ ?_⟩
  ·exact ⟨rfl,_,_,none,rfl,Nat.le_refl 0⟩
  ·rintro i σ H' hi ⟨rfl,r,x,v,rfl,hx⟩
   have hi':i < 8:=by lia
   have h1:0≤r / 8 % 26:=Int.emod_nonneg _ (by decide)
   have h2:r / 8 % 26 < 26:=Int.emod_lt_of_pos _ (by decide)
   obtain ⟨j,hj⟩:=Int.eq_ofNat_of_zero_le h1
   have hz:∃ z,("abcdefghijklmnopqrstuvwxyz":Str).cps.toList[j]?=some z:=⟨_,List.getElem?_eq_getElem (by rw [letters_len]; lia)⟩
   obtain ⟨z,hz⟩:=hz
   refine ⟨_,rfl,_,_,rfl,rfl,⟨by decide,by decide⟩,?_⟩
   refine ⟨_,rfl,_,rfl,_,rfl,_,_,rfl,rfl,(by show (0:Int) < 26; decide),_,_,z,rfl,rfl,letters_fit,?_,_,_,rfl,rfl,?_,?_⟩
   ·rw [hj]; exact atI_nat hz
   ·rw [len_one,sizeLine_eq]; lia
   ·exact ⟨rfl,_,_,_,rfl,by rw [len_app,len_one]; lia⟩
  ·rintro σ H' ⟨rfl,r,x,v,rfl,hx⟩
   exact ⟨_,rfl,q x (by lia)⟩
theorem ten60:(10:Int) ^ ((60:Int).toNat)=1000000000000000000000000000000000000000000000000000000000000:=by decide +kernel
theorem ten60n:(10:Nat) ^ 60=1000000000000000000000000000000000000000000000000000000000000:=by decide +kernel
theorem sc_Lnumber:FnScope ["_law_cell"] ["_law_cell"] (defScope s_Lnumber):=⟨rfl,rfl,rfl,by decide +kernel,rfl,by decide +kernel,by decide +kernel⟩
theorem ok_Lnumber {f:Addr} {fd:FuncData} (F:Fun K "_law_number" "_law_number" s_Lnumber f fd) (T:Txt K mg) :FnOk P w K mg base CX0 1 f fd ["_law_cell"] (sp_Lnumber K):=by
 refine F.ok (k:=0) sc_Lnumber (fun vs H Q E h=>?_) (fun cdv A outer s H vs Q E hr h=>?_)
 ·obtain ⟨c,rfl,_⟩:=h
  rfl
 ·obtain ⟨c,rfl,q⟩:=h
  have fin:∀ n:Int,n.natAbs < 10 ^ 60→n.natAbs.log2 < 1920∧Q (.str (toString n:String)) H:=fun n hn=>⟨log_small n hn,q _ (num_len n hn)⟩
  refine ⟨_,(pss_cons (ps_if (pt_cmpR op_eq (pe_op op_mod (pv 0) pe_int) pe_int (nomark _))
   (pss_one (ps_ret (pe_callTy call_str_any rfl T.n_str bt_str (pa_cons (pe_op op_sub (pe_op op_mod (pe_op op_fdiv (pv 0) pe_int) (pe_op op_sub (pe_op op_mul pe_int (pe_op op_pow pe_int pe_int)) pe_int)) (pe_op op_sub (pe_op op_pow pe_int pe_int) pe_int)) pa_nil))))
   pss_nil)
   (pss_one (ps_ret (pe_callTy call_str_any rfl T.n_str bt_str (pa_cons (pe_op op_sub (pe_op op_mod (pe_op op_fdiv (pv 0) pe_int) pe_int) pe_int) pa_nil))))),?_⟩
  refine ⟨_,rfl,_,_,rfl,rfl,(by show (0:Int) < 3; decide),rfl,_,rfl,ite2 (fun _=>?_) (fun _=>?_)⟩
  ·refine ⟨_,rfl,_,_,rfl,rfl,⟨by decide,by decide⟩,_,_,rfl,rfl,⟨by decide,by decide,by decide⟩,_,_,rfl,rfl,.inl ⟨by decide,by decide⟩,_,_,rfl,rfl,_,_,rfl,rfl,(by show (0:Int) < 2 * 10 ^ 60 - 1; decide),_,_,rfl,rfl,⟨by decide,by decide,by decide⟩,_,_,rfl,rfl,_,_,rfl,rfl,.inr ⟨_,rfl,fin _ ?_⟩⟩
   rw [ten60,ten60n]
   have a1:=Int.emod_nonneg (c / 3) (b:=2 * 1000000000000000000000000000000000000000000000000000000000000 - 1) (by decide)
   have a2:=Int.emod_lt_of_pos (c / 3) (b:=2 * 1000000000000000000000000000000000000000000000000000000000000 - 1) (by decide)
   lia
  ·refine ⟨_,rfl,_,_,rfl,rfl,⟨by decide,by decide⟩,_,_,rfl,rfl,(by show (0:Int) < 27; decide),_,_,rfl,rfl,.inr ⟨_,rfl,fin _ ?_⟩⟩
   rw [ten60n]
   lia
theorem sc_Lpart:FnScope ["_law_cell","_law_k","_law_many","_law_by","_law_primes"] ["_law_cell","_law_k","_law_many"] (defScope s_Lpart):=⟨rfl,rfl,rfl,by decide +kernel,rfl,by decide +kernel,by decide +kernel⟩
theorem ok_Lpart {f:Addr} {fd:FuncData} (F:Fun K "_law_part" "_law_part" s_Lpart f fd) (T:Txt K mg) :FnOk P w K mg base CX0 1 f fd ["_law_cell","_law_k","_law_many"] (sp_Lpart K):=by
 refine F.ok (k:=0) sc_Lpart (fun vs H Q E h=>?_) (fun cdv A outer s H vs Q E hr h=>?_)
 ·obtain ⟨c,k,m,rfl,_⟩:=h
  rfl
 ·obtain ⟨c,k,m,rfl,k0,k8,hm,q⟩:=h
  refine ⟨_,(pss_cons (ps_set (i:=3) sc_Lpart.nd rfl (Or.inl rfl) (pe_tup (pa_cons pe_int (pa_cons pe_int (pa_cons pe_int (pa_cons pe_int (pa_cons pe_int (pa_cons pe_int (pa_cons pe_int (pa_cons pe_int pa_nil))))))))))
   (pss_cons (ps_set (i:=4) sc_Lpart.nd rfl (Or.inl rfl) (pe_tup (pa_cons pe_int (pa_cons pe_int (pa_cons pe_int (pa_cons pe_int (pa_cons pe_int (pa_cons pe_int (pa_cons pe_int (pa_cons pe_int pa_nil))))))))))
   (pss_one (ps_ret (pe_op op_mod (pe_op op_mod (pe_op op_mul (pv 0) (pe_ix ix_tup (pv 3) (pv 1) (fun _ _=>rfl))) (pe_ix ix_tup (pv 4) (pv 1) (fun _ _=>rfl))) (pv 2)))))),?_⟩
  refine ⟨by decide,fun t1 h1=>⟨by decide,fun t2 h2=>?_⟩⟩
  have key:Ex_2_5 (fun (b p:Int)=>atI [V.int 982451653,.int 961748941,.int 941083987,.int 920419823,.int 899809363,.int 879190841,.int 858599509,.int 838041647] k=some (.int b)) (fun b p=>atI [V.int 1000003,.int 1000033,.int 1000037,.int 1000039,.int 1000081,.int 1000099,.int 1000117,.int 1000121] k=some (.int p)) (fun b p=>0≤b) (fun b p=>b≤1000000000) (fun b p=>0 < p):=by
   obtain ⟨j,rfl⟩:=Int.eq_ofNat_of_zero_le k0
   have hj:j < 8:=by lia
   match j,hj with
   | 0,_=>exact ⟨_,_,rfl,rfl,by decide,by decide,by decide⟩
   | 1,_=>exact ⟨_,_,rfl,rfl,by decide,by decide,by decide⟩
   | 2,_=>exact ⟨_,_,rfl,rfl,by decide,by decide,by decide⟩
   | 3,_=>exact ⟨_,_,rfl,rfl,by decide,by decide,by decide⟩
   | 4,_=>exact ⟨_,_,rfl,rfl,by decide,by decide,by decide⟩
   | 5,_=>exact ⟨_,_,rfl,rfl,by decide,by decide,by decide⟩
   | 6,_=>exact ⟨_,_,rfl,rfl,by decide,by decide,by decide⟩
   | 7,_=>exact ⟨_,_,rfl,rfl,by decide,by decide,by decide⟩
  obtain ⟨b,p,hb,hp,b0,b1,p0⟩:=key
  have s2:=Same.new (o:=.tup [V.int 1000003,.int 1000033,.int 1000037,.int 1000039,.int 1000081,.int 1000099,.int 1000117,.int 1000121]) h2
  refine ⟨_,rfl,_,rfl,_,rfl,t1,_,_,_,rfl,rfl,s2.seqT SqT.new,hb,_,_,rfl,rfl,.inr ⟨by lia,by lia⟩,_,rfl,_,rfl,t2,_,_,_,rfl,rfl,SqT.new,hp,_,_,rfl,rfl,p0,_,rfl,_,_,rfl,rfl,hm,q _ _ ((Same.new h1).trans s2) (Int.emod_nonneg _ (by lia)) (Int.emod_lt_of_pos _ hm)⟩
theorem sp_one:(" ":Str).length≤1:=by decide +kernel
theorem sc_Lrow:FnScope ["_law_kind","_law_one","_law_other","_law_tail","_law_head"] ["_law_kind","_law_one","_law_other"] (defScope s_Lrow):=⟨rfl,rfl,rfl,by decide +kernel,rfl,by decide +kernel,by decide +kernel⟩
theorem ok_Lrow {f:Addr} {fd:FuncData} (F:Fun K "_law_row" "_law_row" s_Lrow f fd) (T:Txt K mg) (h_Lname:Has P w K mg base 1 "_law_name" ["_law_cell"] (sp_Lname K)) (h_Lnumber:Has P w K mg base 1 "_law_number" ["_law_cell"] (sp_Lnumber K)):FnOk P w K mg base CX0 2 f fd ["_law_kind","_law_one","_law_other"] (sp_Lrow K):=by
 refine F.ok (k:=1) sc_Lrow (fun vs H Q E h=>?_) (fun cdv A outer s H vs Q E hr h=>?_)
 ·obtain ⟨kd,o,t,rfl,_⟩:=h
  rfl
 ·obtain ⟨kd,o,t,rfl,q⟩:=h
  refine ⟨_,(pss_cons (ps_set (i:=3) sc_Lrow.nd rfl (Or.inl rfl) pe_str)
   (pss_cut (ps_if (pt_cmpR op_gt (pe_op op_mod (pv 1) pe_int) pe_int (nomark _))
   (pss_cons (ps_set (i:=3) sc_Lrow.nd rfl (Or.inl rfl) (pe_op op_add_str (pe_op op_add_str (pe_op op_add_str pe_str (pe_ix ix_list (pe_lst (pa_cons pe_str (pa_cons pe_str pa_nil))) (pe_op op_mod (pe_op op_fdiv (pv 1) pe_int) pe_int) (fun _ _=>rfl))) pe_str) (pe_fn h_Lname (hr.mono (by decide)) (pa_cons (pe_op op_add (pe_op op_fdiv (pv 1) pe_int) pe_int) pa_nil))))
   (pss_one (ps_set (i:=3) sc_Lrow.nd rfl (Or.inl rfl) (pe_op op_add_str (pe_op op_add_str (pv 3) pe_str) (pe_fn h_Lnumber (hr.mono (by decide)) (pa_cons (pe_op op_add (pe_op op_fdiv (pv 2) pe_int) pe_int) pa_nil))))))
   pss_nil)
   (pss_cons (ps_if (pt_cmpR op_eq (pv 0) pe_int (nomark _))
   (pss_one (ps_ret (pe_op op_add_str (pe_op op_add_str (pe_op op_add_str (pe_op op_add_str pe_str (pe_fn h_Lname (hr.mono (by decide)) (pa_cons (pv 1) pa_nil))) pe_str) (pe_fn h_Lnumber (hr.mono (by decide)) (pa_cons (pv 2) pa_nil))) (pv 3))))
   pss_nil)
   (pss_cons (ps_if (pt_cmpR op_eq (pv 0) pe_int (nomark _))
   (pss_one (ps_ret (pe_op op_add_str (pe_op op_add_str (pe_op op_add_str (pe_op op_add_str pe_str (pe_fn h_Lname (hr.mono (by decide)) (pa_cons (pv 2) pa_nil))) pe_str) (pe_fn h_Lname (hr.mono (by decide)) (pa_cons (pv 1) pa_nil))) (pv 3))))
   pss_nil)
   (pss_cons (ps_if (pt_cmpR op_eq (pv 0) pe_int (nomark _))
   (pss_cons (ps_set (i:=4) sc_Lrow.nd rfl (Or.inl rfl) (pe_op op_add_str (pe_op op_add_str (pe_op op_add_str (pe_op op_add_str pe_str (pe_fn h_Lname (hr.mono (by decide)) (pa_cons (pv 2) pa_nil))) pe_str) (pe_fn h_Lname (hr.mono (by decide)) (pa_cons (pv 1) pa_nil))) pe_str))
   (pss_one (ps_ret (pe_op op_add_str (pe_op op_add_str (pv 4) (pe_fn h_Lnumber (hr.mono (by decide)) (pa_cons (pe_op op_add (pe_op op_fdiv (pv 1) pe_int) (pv 2)) pa_nil))) (pv 3)))))
   pss_nil)
   (pss_one (ps_ret (pe_op op_add_str (pe_ix ix_list (pe_lst (pa_cons pe_str (pa_cons pe_str pa_nil))) (pe_op op_mod (pv 0) pe_int) (fun _ _=>rfl)) (pv 3))))))))),?_⟩
  refine ⟨fun σ' H'=>∃ (x:Str),x.length≤80∧Same H H'∧σ'=[some (.int kd),some (.int o),some (.int t),some (.str x),none],?_,?_⟩
  ·refine ⟨_,rfl,_,_,rfl,rfl,(by show (0:Int) < 3; decide),_,_,rfl,rfl,_,rfl,ite2 (fun _=>?_) (fun _=>?_)⟩
   ·refine ⟨by decide,fun l hl=>⟨_,rfl,_,_,rfl,rfl,⟨by decide,by decide⟩,_,_,rfl,rfl,(by show (0:Int) < 2; decide),?_⟩⟩
    obtain ⟨wd,hw,hwl⟩:=two_at (u:="when") (v:="unless") (n:=6) (Int.emod_nonneg (o / 3) (by decide:(2:Int)≠0)) (Int.emod_lt_of_pos (o / 3) (by decide)) (by decide +kernel) (by decide +kernel)
    have b1:=glue_len sp_one hwl
    have b2:=glue_len b1 sp_one
    refine ⟨l,_,_,_,rfl,rfl,SqL.new,hw,_,_,rfl,rfl,glue b1,_,_,rfl,rfl,glue b2,?_⟩
    refine ⟨_,rfl,_,_,rfl,rfl,⟨by decide,by decide⟩,_,_,rfl,rfl,_,rfl,fun x hx=>?_⟩
    have b3:=glue_len b2 hx
    have b4:=glue_len b3 sp_one
    refine ⟨_,_,rfl,rfl,glue b3,_,rfl,_,_,rfl,rfl,glue b4,_,rfl,_,_,rfl,rfl,⟨by decide,by decide⟩,_,_,rfl,rfl,_,rfl,fun y hy=>?_⟩
    have b5:=glue_len b4 hy
    exact ⟨_,_,rfl,rfl,glue b5,_,Nat.le_trans b5 (by decide),Same.new hl,rfl⟩
   ·exact ⟨_,by decide +kernel,Same.refl _,rfl⟩
  ·rintro σ' H1 ⟨x,hx,s1,rfl⟩
   refine ⟨_,rfl,rfl,_,rfl,ite2 (fun _=>?_) (fun _=>?_)⟩
   ·refine ⟨_,rfl,_,rfl,fun n hn=>?_⟩
    have b1:=glue_len (a:="put ") (m:=4) (by decide +kernel) hn
    have b2:=glue_len b1 sp_one
    refine ⟨_,_,rfl,rfl,glue b1,_,_,rfl,rfl,glue b2,_,rfl,_,rfl,fun m hm=>?_⟩
    have b3:=glue_len b2 hm
    have b4:=glue_len b3 hx
    exact ⟨_,_,rfl,rfl,glue b3,_,rfl,_,_,rfl,rfl,glue b4,q _ _ s1 (Nat.le_trans b4 (by decide))⟩
   refine ⟨_,rfl,rfl,_,rfl,ite2 (fun _=>?_) (fun _=>?_)⟩
   ·refine ⟨_,rfl,_,rfl,fun n hn=>?_⟩
    have b1:=glue_len (a:="get ") (m:=4) (by decide +kernel) hn
    have b2:=glue_len b1 sp_one
    refine ⟨_,_,rfl,rfl,glue b1,_,_,rfl,rfl,glue b2,_,rfl,_,rfl,fun m hm=>?_⟩
    have b3:=glue_len b2 hm
    have b4:=glue_len b3 hx
    exact ⟨_,_,rfl,rfl,glue b3,_,rfl,_,_,rfl,rfl,glue b4,q _ _ s1 (Nat.le_trans b4 (by decide))⟩
   refine ⟨_,rfl,rfl,_,rfl,ite2 (fun _=>?_) (fun _=>?_)⟩
   ·refine ⟨_,rfl,_,rfl,fun n hn=>?_⟩
    have b1:=glue_len (a:="swap ") (m:=5) (by decide +kernel) hn
    have b2:=glue_len b1 sp_one
    refine ⟨_,_,rfl,rfl,glue b1,_,_,rfl,rfl,glue b2,_,rfl,_,rfl,fun m hm=>?_⟩
    have b3:=glue_len b2 hm
    have b4:=glue_len b3 sp_one
    refine ⟨_,_,rfl,rfl,glue b3,_,_,rfl,rfl,glue b4,_,rfl,_,rfl,_,_,rfl,rfl,⟨by decide,by decide⟩,_,rfl,_,_,rfl,rfl,_,rfl,fun k hk=>?_⟩
    have b5:=glue_len b4 hk
    have b6:=glue_len b5 hx
    exact ⟨_,_,rfl,rfl,glue b5,_,rfl,_,_,rfl,rfl,glue b6,q _ _ s1 (Nat.le_trans b6 (by decide))⟩
   ·refine ⟨by decide,fun l hl=>⟨_,rfl,_,_,rfl,rfl,(by show (0:Int) < 2; decide),?_⟩⟩
    obtain ⟨wd,hw,hwl⟩:=two_at (u:="fence") (v:="bar") (n:=5) (Int.emod_nonneg kd (by decide:(2:Int)≠0)) (Int.emod_lt_of_pos kd (by decide)) (by decide +kernel) (by decide +kernel)
    have b1:=glue_len hwl hx
    exact ⟨l,_,_,_,rfl,rfl,SqL.new,hw,_,rfl,_,_,rfl,rfl,glue b1,q _ _ (s1.then hl) (Nat.le_trans b1 (by decide))⟩
end
end Own
set_option Elab.async false
set_option linter.all false
set_option maxRecDepth 100000
set_option maxHeartbeats 4100000
namespace Own
open PySem L2
inductive Sp_Lhands (K:PySem.W.Frag) (vs:List V) (H:Hp) (Q:VK) (E_:XK):Prop
 | mk (a:Addr) (ns:List Int) (h0_:vs=[.ref a]) (h1_:SqL K H a (ns.map V.int)) (h2_:∀ l (S:List Str) H',Same H H'→H l=none→H' l=some (.lst (S.map V.str))→1≤S.length→S.length≤8→(∀ x∈S,x.length≤9000)→Q (.ref l) H'):Sp_Lhands K vs H Q E_
noncomputable def sp_Lhands (K:PySem.W.Frag):Sp:=Sp_Lhands K
noncomputable def SameEx (as:List Addr) (H H':Hp):Prop:=∀ b u,b ∉ as→H b=some u→H' b=some u
theorem SameEx.seq {K:PySem.W.Frag} {as:List Addr} {H H':Hp} {a:Addr} {xs:List V} (s:SameEx as H H') (ha:a ∉ as) (h:SqL K H a xs):SqL K H' a xs:=by
 rcases h with (h | ⟨o,h⟩) | h
 ·exact .inl (.inl (s _ _ ha h))
 ·exact .inl (.inr ⟨o,s _ _ ha h⟩)
 ·exact .inr h
theorem SameEx.then {as:List Addr} {H H1 H2:Hp} (s:SameEx as H H1) (t:Same H1 H2):SameEx as H H2:=fun b u hb e=>t b u (s b u hb e)
theorem SameEx.put {as:List Addr} {H H1:Hp} {l:Addr} {o:HO} (s:SameEx as H H1) (hl:l∈as):SameEx as H (upd H1 l o):=fun b u hb e=>by
 rw [upd_ne (fun (z:b=l)=>hb (z ▸ hl))]
 exact s b u hb e
theorem nodup_inj {as:List Addr} (h:as.Nodup) {i j:Nat} {a:Addr} (e1:as[i]?=some a) (e2:as[j]?=some a):i=j:=by
 obtain ⟨h1,e1⟩:=List.getElem?_eq_some_iff.mp e1
 obtain ⟨h2,e2⟩:=List.getElem?_eq_some_iff.mp e2
 exact (List.getElem_inj h).mp (e1.trans e2.symm)
noncomputable abbrev Rows:=List (Addr×List Str)
structure FillS (H0 H':Hp) (as:List Addr) (n:Nat) (p:Addr) (hs:Rows):Prop where
 l:H' p=some (.lst (as.map V.ref))
 eq:hs.map (·.1)=as
 at_:∀ (j:Nat) h,hs[j]?=some h→H' h.1=some (.lst (h.2.map V.str))
 ok:∀ (j:Nat) h,hs[j]?=some h→h.2.length≤n∧∀ x∈h.2,x.length≤200
 ex:SameEx as H0 H'
section
variable {H0 H1 H2:Hp} {as:List Addr} {n:Nat} {p:Addr} {hs:Rows}
theorem FillS.same (F:FillS H0 H1 as n p hs) (s:Same H1 H2):FillS H0 H2 as n p hs :=
 ⟨s _ _ F.l,F.eq,fun j h e=>s _ _ (F.at_ j h e),F.ok,F.ex.then s⟩
theorem FillS.more (F:FillS H0 H1 as n p hs) (nd:as.Nodup) (hp:p ∉ as) {r:Nat} {h:Addr×List Str} (e:hs[r]?=some h) {x:Str} (hx:x.length≤200) :
  FillS H0 (upd H1 h.1 (.lst (h.2.map V.str ++ [V.str x]))) as (n + 1) p (hs.set r (h.1,h.2 ++ [x])):=by
 have hr:r < hs.length:=(List.getElem?_eq_some_iff.mp e).1
 have ha:as[r]?=some h.1:=by rw [← F.eq,List.getElem?_map,e]; rfl
 have hm:h.1∈as:=List.mem_of_getElem? ha
 have at2:∀ (j:Nat) h',(hs.set r (h.1,h.2 ++ [x]))[j]?=some h'→(j=r∧h'=(h.1,h.2 ++ [x]))∨(j≠r∧hs[j]?=some h'):=fun j h' e'=>by
  rw [List.getElem?_set] at e'
  by_cases c:r=j
  ·rw [if_pos c,if_pos (c ▸ hr)] at e'
   exact .inl ⟨c.symm,(Option.some.inj e').symm⟩
  ·rw [if_neg c] at e'
   exact .inr ⟨fun z=>c z.symm,e'⟩
 refine ⟨?_,?_,fun j h' e'=>?_,fun j h' e'=>?_,F.ex.put hm⟩
 ·rw [upd_ne (fun (z:p=h.1)=>hp (z ▸ hm))]; exact F.l
 ·rw [← F.eq]
  refine List.ext_getElem? fun j=>?_
  rw [List.getElem?_map,List.getElem?_map,List.getElem?_set]
  by_cases c:r=j
  ·rw [if_pos c,if_pos (c ▸ hr),← c,e]; rfl
  ·rw [if_neg c]
 ·rcases at2 j h' e' with ⟨_,rfl⟩ | ⟨hj,e2⟩
  ·rw [upd_same,List.map_append]; rfl
  ·have hne:h'.1≠h.1:=fun z=>hj (nodup_inj nd (by rw [← F.eq,List.getElem?_map,e2]; rfl) (z ▸ ha))
   rw [upd_ne hne]
   exact F.at_ j h' e2
 ·rcases at2 j h' e' with ⟨_,rfl⟩ | ⟨hj,e2⟩
  ·obtain ⟨o1,o2⟩:=F.ok r h e
   refine ⟨by show (h.2 ++ [x]).length≤n + 1; rw [List.length_append,List.length_singleton]; lia,fun y hy=>?_⟩
   rcases List.mem_append.mp hy with hy | hy
   ·exact o2 y hy
   ·rw [List.mem_singleton.mp hy]; exact hx
  ·obtain ⟨o1,o2⟩:=F.ok j h' e2
   exact ⟨by lia,o2⟩
end
theorem nd_snoc {as:List Addr} {t:Addr} (nd:as.Nodup) (h:t ∉ as):(as ++ [t]).Nodup:=by
 refine List.nodup_append.mpr ⟨nd,(by simp),fun a ha b hb z=>?_⟩
 rw [List.mem_singleton.mp hb] at z
 exact h (z ▸ ha)
noncomputable def Tris (H:Hp) (ts:List Addr):Prop:=∀ t∈ts,Ex_3_1 (fun (x y z:Int)=>H t=some (.tup [.int x,.int y,.int z]))
theorem Tris.same {H H':Hp} {ts:List Addr} (s:Same H H') (h:Tris H ts):Tris H' ts:=fun t ht=>by
 obtain ⟨x,y,z,e⟩:=h t ht
 exact ⟨x,y,z,s _ _ e⟩
theorem Tris.lset {H:Hp} {ts:List Addr} {l:Addr} {xs ys:List V} (hl:H l=some (.lst xs)) (h:Tris H ts):Tris (upd H l (.lst ys)) ts:=fun t ht=>by
 obtain ⟨x,y,z,e⟩:=h t ht
 exact ⟨x,y,z,by rw [upd_ne (ne_of e hl (fun q=>nomatch q))]; exact e⟩
theorem Tris.snoc {H:Hp} {ts:List Addr} {t:Addr} {x y z:Int} (h:Tris H ts) (e:H t=some (.tup [.int x,.int y,.int z])):Tris H (ts ++ [t]):=fun u hu=>by
 rcases List.mem_append.mp hu with hu | hu
 ·exact h u hu
 ·rw [List.mem_singleton.mp hu]; exact ⟨x,y,z,e⟩
theorem SameEx.tris {as:List Addr} {H H':Hp} {ts:List Addr} (s:SameEx as H H') (hn:∀ t∈ts,t ∉ as) (h:Tris H ts):Tris H' ts:=fun t ht=>by
 obtain ⟨x,y,z,e⟩:=h t ht
 exact ⟨x,y,z,s _ _ (hn t ht) e⟩
section
variable {P:Program} {w:World} {K:PySem.W.Frag} {mg:Str→Option Value} {base:Heap}
theorem sc_Lhands:FnScope ["_law_script","_law_first","_law_many","_law_last","_law_cells","_law_size","_law_rows","_law_kind","_law_one","_law_other","_law_found","_law_row_here"] ["_law_script"] (defScope s_Lhands):=⟨rfl,rfl,rfl,by decide +kernel,rfl,by decide +kernel,by decide +kernel⟩
theorem ok_Lhands {f:Addr} {fd:FuncData} (F:Fun K "_law_hands" "_law_hands" s_Lhands f fd) (T:Txt K mg) (h_Lcellat:Has P w K mg base 1 "_law_cell_at" ["_law_script","_law_k"] (sp_Lcellat K)) (h_Lpart:Has P w K mg base 1 "_law_part" ["_law_cell","_law_k","_law_many"] (sp_Lpart K)) (h_Lrow:Has P w K mg base 2 "_law_row" ["_law_kind","_law_one","_law_other"] (sp_Lrow K)):FnOk P w K mg base CX0 3 f fd ["_law_script"] (sp_Lhands K):=by
 refine F.ok (k:=2) sc_Lhands (fun vs H Q E h=>?_) (fun cdv A outer s H vs Q E hr h=>?_)
 ·obtain ⟨a,ns,rfl,_⟩:=h
  rfl
 ·obtain ⟨a,ns,rfl,hS,q⟩:=h
  refine ⟨_,(pss_cons (ps_set (i:=1) sc_Lhands.nd rfl (Or.inr rfl) (pe_fn h_Lcellat (hr.mono (by decide)) (pa_cons (pv 0) (pa_cons pe_int pa_nil))))
   (pss_cons (ps_set (i:=2) sc_Lhands.nd rfl (Or.inl rfl) (pe_op op_add (pe_op op_add pe_int (pe_fn h_Lpart (hr.mono (by decide)) (pa_cons (pv 1) (pa_cons pe_int (pa_cons pe_int pa_nil))))) (pe_op op_mul (pe_callTy call_int1 rfl T.n_int bt_int (pa_cons (pe_cmpR op_eq (pe_fn h_Lpart (hr.mono (by decide)) (pa_cons (pv 1) (pa_cons pe_int (pa_cons pe_int pa_nil)))) pe_int (nomark _)) pa_nil)) pe_int)))
   (pss_cons (ps_set (i:=3) sc_Lhands.nd rfl (Or.inl rfl) (pe_op op_sub (pe_callB (call_min2 rfl) rfl T.n_min bt_min (pa_cons (pe_callB call_len_seq rfl T.n_len bt_len (pa_cons (pv 0) pa_nil)) (pa_cons pe_int pa_nil))) pe_int))
   (pss_cons (ps_comp (i:=4) (Nc:=["_law_k","_law_script"]) (nt:=1) (js:=[0]) rfl sc_Lhands.nd rfl rfl ⟨rfl,rfl,rfl,rfl,(.cons rfl .nil),rfl,⟨["_law_k"],["_law_script"],rfl,rfl,(.cons rfl rfl rfl .nil)⟩⟩ (pi_range3 rfl T.n_range (pa_cons pe_int (pa_cons (pv 3) (pa_cons pe_int pa_nil)))) (fun C s3 H3 fp pins=>⟨(pg_name (i:=0) (show (["_law_k","_law_script"]:List Str).Nodup by decide +kernel) rfl (Or.inl rfl)),pts_nil,(pe_tup (pa_cons (pe_ix (show IxR _ (rIxL K) from ix_list) (pv 1) (pv 0) (fun _ _=>rfl)) (pa_cons (pe_ix (show IxR _ (rIxL K) from ix_list) (pv 1) (pe_op op_add (pv 0) pe_int) (fun _ _=>rfl)) (pa_cons (pe_ix (show IxR _ (rIxL K) from ix_list) (pv 1) (pe_op op_add (pv 0) pe_int) (fun _ _=>rfl)) pa_nil))))⟩))
   (pss_cut (ps_if (pt_cmpR op_eq (pe_op op_mod (pv 1) pe_int) pe_int (nomark _))
   (pss_cons (ps_set (i:=5) sc_Lhands.nd rfl (Or.inl rfl) (pe_op op_add pe_int (pe_fn h_Lpart (hr.mono (by decide)) (pa_cons (pv 1) (pa_cons pe_int (pa_cons pe_int pa_nil))))))
   (pss_one (ps_comp (i:=4) (Nc:=["_law_k","_law_first"]) (nt:=1) (js:=[1]) rfl sc_Lhands.nd rfl rfl ⟨rfl,rfl,rfl,rfl,(.cons rfl .nil),rfl,⟨["_law_k"],["_law_first"],rfl,rfl,(.cons rfl rfl rfl .nil)⟩⟩ (pi_range1 rfl T.n_range (pa_cons (pv 5) pa_nil)) (fun C s3 H3 fp pins=>⟨(pg_name (i:=0) (show (["_law_k","_law_first"]:List Str).Nodup by decide +kernel) rfl (Or.inl rfl)),pts_nil,(pe_tup (pa_cons (pe_op op_add (pe_op op_mod (pv 1) (pe_op op_pow pe_int pe_int)) (pv 0)) (pa_cons (pe_op op_add (pe_op op_mod (pv 1) (pe_op op_pow pe_int pe_int)) (pe_op op_mul (pv 0) (pv 0))) (pa_cons (pe_op op_add (pe_op op_mod (pv 1) pe_int) (pe_op op_mul pe_int (pv 0))) pa_nil))))⟩))))
   pss_nil)
   (pss_cons (ps_comp (i:=6) (Nc:=["_law_k"]) (nt:=1) (js:=[]) rfl sc_Lhands.nd rfl rfl ⟨rfl,rfl,rfl,rfl,.nil,rfl,⟨["_law_k"],[],rfl,rfl,.nil⟩⟩ (pi_range1 rfl T.n_range (pa_cons (pv 2) pa_nil)) (fun C s3 H3 fp pins=>⟨(pg_name (i:=0) (show (["_law_k"]:List Str).Nodup by decide +kernel) rfl (Or.inl rfl)),pts_nil,(pe_lst pa_nil)⟩))
   (pss_cons (ps_for PassesOwn.never rfl (pi_list (pv 4)) (pg_tup rfl (pgs_cons (pg_name (i:=7) sc_Lhands.nd rfl (Or.inl rfl)) (pgs_cons (pg_name (i:=8) sc_Lhands.nd rfl (Or.inl rfl)) (pgs_cons (pg_name (i:=9) sc_Lhands.nd rfl (Or.inl rfl)) pgs_nil))))
   (pss_one (ps_expr (pe_bm PySem.F.plainAttrs_list PySem.F.slot_list_append PySem.F.type_list_append mt_append (pe_ix ix_list (pv 6) (pe_fn h_Lpart (hr.mono (by decide)) (pa_cons (pv 7) (pa_cons pe_int (pa_cons (pv 2) pa_nil)))) (fun _ _=>rfl)) (pa_cons (pe_fn h_Lrow (hr.mono (by decide)) (pa_cons (pe_fn h_Lpart (hr.mono (by decide)) (pa_cons (pv 7) (pa_cons pe_int (pa_cons pe_int pa_nil)))) (pa_cons (pv 8) (pa_cons (pv 9) pa_nil)))) pa_nil)))))
   (pss_cons (ps_set (i:=10) sc_Lhands.nd rfl (Or.inl rfl) (pe_lst pa_nil))
   (pss_cons (ps_for PassesOwn.never rfl (pi_list (pv 6)) (pg_name (i:=11) sc_Lhands.nd rfl (Or.inl rfl))
   (pss_cut (ps_if (pt_cmpR op_eq (pe_callB call_len_seq rfl T.n_len bt_len (pa_cons (pv 11) pa_nil)) pe_int (nomark _))
   (pss_one (ps_set (i:=11) sc_Lhands.nd rfl (Or.inl rfl) (pe_lst (pa_cons pe_str pa_nil))))
   pss_nil)
   (pss_one (ps_expr (pe_bm PySem.F.plainAttrs_list PySem.F.slot_list_append PySem.F.type_list_append mt_append (pv 10) (pa_cons (pe_bm PySem.F.plainAttrs_str PySem.F.slot_str_join PySem.F.type_str_join mt_join pe_str (pa_cons (pv 11) pa_nil)) pa_nil))))))
   (pss_one (ps_ret (pv 10)))))))))))),?_⟩
  refine ⟨_,rfl,a,ns,0,rfl,hS,by decide,?_⟩
  generalize ns.getD (0:Int).toNat 0=first
  refine ⟨_,rfl,first,0,6,rfl,by decide,by decide,by decide,fun r1 H1 s1 r10 r11=>⟨_,_,rfl,rfl,_,rfl,first,1,9,rfl,by decide,by decide,by decide,fun r2 H2 s2 r20 r21=>⟨rfl,.inr ⟨_,rfl,_,_,rfl,rfl,.inr ⟨by decide,by decide⟩,_,_,rfl,rfl,?_⟩⟩⟩⟩
  have s02:=s1.trans s2
  have hS2:=s02.seq hS
  refine ⟨_,rfl,a,_,rfl,.inl hS2,_,_,rfl,_,_,rfl,rfl,?_⟩
  refine ⟨_,rfl,_,_,rfl,⟨by decide,by decide,by split <;> lia,by split <;> lia⟩,fun D hD=>comp_range3 (fun i σ ys H'=>Ex_2_6 (fun (ts:List Addr) (v:Option V)=>Same H2 H') (fun ts v=>H' D=some (.lst ys)) (fun ts v=>ys=ts.map V.ref) (fun ts v=>Tris H' ts) (fun ts v=>ts.length=i) (fun ts v=>σ=[v,some (.ref a)])) ?_ ?_ ?_ ?_ ?_⟩
  ·exact ⟨[],none,Same.new hD,upd_same,rfl,(fun t ht=>by cases ht),rfl,rfl⟩
  ·rintro i σ ys H' hi ⟨ts,v,s3,hD',rfl,hT,hl,rfl⟩
   exact ⟨hD',by rw [List.length_map]; lia⟩
  ·refine Nat.le_of_lt (small1000 ?_)
   unfold Builtin.Range.rangeSize
   rw [if_pos (by decide)]
   (repeat' split) <;> lia
  ·rintro i σ ys H' hi ⟨ts,v,s3,hD',rfl,hT,hl,rfl⟩
   have hlt:=size3 hi
   rw [List.length_map] at hlt
   have hlt2:6 + (i:Int) * 3 + 2 < (ns.length:Int):=by split at hlt <;> lia
   have hS3:=(s02.trans s3).seq hS
   refine ⟨_,rfl,_,rfl,a,_,_,_,rfl,rfl,hS3,atI_ints (by lia) (by lia),_,rfl,_,rfl,_,_,rfl,rfl,a,_,_,_,rfl,rfl,hS3,atI_ints (by lia) (by lia),_,rfl,_,rfl,_,_,rfl,rfl,a,_,_,_,rfl,rfl,hS3,atI_ints (by lia) (by lia),(by show 3≤sizeLine; decide),fun t ht=>?_⟩
   have hDt:D≠t:=ne_of_none hD' ht
   have hD2:upd H' t (.tup [V.int (ns.getD (6 + (i:Int) * 3).toNat 0),.int (ns.getD (6 + (i:Int) * 3 + 1).toNat 0),.int (ns.getD (6 + (i:Int) * 3 + 2).toNat 0)]) D=some (.lst (ts.map V.ref)):=by rw [upd_ne hDt]; exact hD'
   exact ⟨hD2,ts ++ [t],_,Same.at hD (s3.then ht),upd_same,by rw [List.map_append]; rfl,((hT.same (Same.new ht)).snoc upd_same).lset hD2,by rw [List.length_append,hl]; rfl,rfl⟩
  rintro σ0 ys0 H3 ⟨ts,v0,s3,hD3,rfl,hT3,hlt3,rfl⟩
  have hlt44:ts.length≤44:=by
   rw [hlt3]
   unfold Builtin.Range.rangeSize
   rw [if_pos (by decide)]
   (repeat' split) <;> lia
  refine ⟨fun σ' H'=>Ex_5_6 (fun (m l:Int) (cl:Addr) (ts:List Addr) (v5:Option V)=>(1≤m∧m≤8)) (fun m l cl ts v5=>Same H2 H') (fun m l cl ts v5=>H' cl=some (.lst (ts.map V.ref))) (fun m l cl ts v5=>Tris H' ts) (fun m l cl ts v5=>ts.length≤44) (fun m l cl ts v5=>σ'=[some (.ref a),some (.int first),some (.int m),some (.int l),some (.ref cl),v5,none,none,none,none,none,none]),?_,?_⟩
  ·refine ⟨_,rfl,_,_,rfl,rfl,(by show (0:Int) < 8; decide),rfl,_,rfl,ite2 (fun _=>?_) (fun _=>?_)⟩
   ·refine ⟨_,rfl,first,2,6,rfl,by decide,by decide,by decide,fun r3 H4 s4 r30 r31=>⟨_,_,rfl,rfl,?_⟩⟩
    refine ⟨_,rfl,_,rfl,by lia,by lia,fun E hE=>?_⟩
    refine comp_range (n:=(39 + r3).toNat) (fun i σ ys H9=>Ex_2_6 (fun (ts:List Addr) (v:Option V)=>Same H4 H9) (fun ts v=>H9 E=some (.lst ys)) (fun ts v=>ys=ts.map V.ref) (fun ts v=>Tris H9 ts) (fun ts v=>ts.length=i) (fun ts v=>σ=[v,some (.int first)])) ?_ ?_ ?_ ?_ ?_
    ·exact ⟨[],none,Same.new hE,upd_same,rfl,(fun t ht=>by cases ht),rfl,rfl⟩
    ·rintro i σ ys H9 hi ⟨ts,v,s9,hE9,rfl,hT,hl,rfl⟩
     exact ⟨hE9,by rw [List.length_map]; lia⟩
    ·exact Nat.le_of_lt (small1000 (by lia))
    ·rintro i σ ys H9 hi ⟨ts,v,s9,hE9,rfl,hT,hl,rfl⟩
     refine ⟨_,rfl,_,_,rfl,rfl,⟨by decide,by decide,by decide⟩,_,_,rfl,rfl,(by show (0:Int) < 10 ^ 9; decide),_,rfl,_,_,rfl,rfl,_,rfl,_,_,rfl,rfl,⟨by decide,by decide,by decide⟩,_,_,rfl,rfl,(by show (0:Int) < 10 ^ 60; decide),_,rfl,_,rfl,_,_,rfl,rfl,.inl ⟨by lia,by lia⟩,_,_,rfl,rfl,?_⟩
     refine ⟨_,rfl,_,_,rfl,rfl,(by show (0:Int) < 999983; decide),_,rfl,_,_,rfl,rfl,.inl ⟨by decide,by decide⟩,_,_,rfl,rfl,(by show 3≤sizeLine; decide),fun t ht=>?_⟩
     have hEt:E≠t:=ne_of_none hE9 ht
     refine ⟨by rw [upd_ne hEt]; exact hE9,ts ++ [t],_,Same.at hE (s9.then ht),upd_same,by rw [List.map_append]; rfl,((hT.same (Same.new ht)).snoc upd_same).lset (by rw [upd_ne hEt]; exact hE9),by rw [List.length_append,hl]; rfl,rfl⟩
    ·rintro σ ys H9 ⟨ts,v,s9,hE9,rfl,hT,hl,rfl⟩
     exact ⟨_,_,E,ts,_,⟨by split <;> lia,by split <;> lia⟩,s3.trans (s4.trans s9),hE9,hT,by lia,rfl⟩
   ·exact ⟨_,_,D,ts,_,⟨by split <;> lia,by split <;> lia⟩,s3,hD3,hT3,hlt44,rfl⟩
  rintro σ' H5 ⟨m,lv,cl,ts,v5,⟨m1,m8⟩,s25,hcl,hT5,ht44,rfl⟩
  refine ⟨_,rfl,_,rfl,by lia,by lia,fun D2 hD2=>?_⟩
  refine comp_range (n:=m.toNat) (fun i σ ys H6=>Ex_2_8 (fun (as:List Addr) (v:Option V)=>Same H5 H6) (fun as v=>H6 D2=some (.lst ys)) (fun as v=>ys=as.map V.ref) (fun as v=>as.Nodup) (fun as v=>D2 ∉ as) (fun as v=>as.length=i) (fun as v=>(∀ b∈as,H6 b=some (.lst [])∧H5 b=none)) (fun as v=>σ=[v])) ?_ ?_ ?_ ?_ ?_
  ·exact ⟨[],none,Same.new hD2,upd_same,rfl,List.nodup_nil,(fun z=>by cases z),rfl,(fun b hb=>by cases hb),rfl⟩
  ·rintro i σ ys H6 hi ⟨as,v,s6,hD6,rfl,nd,hDn,hl6,hb,rfl⟩
   exact ⟨hD6,by rw [List.length_map]; lia⟩
  ·exact Nat.le_of_lt (small1000 (by lia))
  ·rintro i σ ys H6 hi ⟨as,v,s6,hD6,rfl,nd,hDn,hl6,hb,rfl⟩
   refine ⟨by decide,fun t ht=>?_⟩
   have hta:t ∉ as:=fun z=>by rw [(hb t z).1] at ht; cases ht
   have hDt:D2≠t:=ne_of_none hD6 ht
   refine ⟨by rw [upd_ne hDt]; exact hD6,as ++ [t],_,Same.at hD2 (s6.then ht),upd_same,by rw [List.map_append]; rfl,nd_snoc nd hta,fun z=>?_,by rw [List.length_append,hl6]; rfl,fun b hb'=>?_,rfl⟩
   ·rcases List.mem_append.mp z with z | z
    ·exact hDn z
    ·exact hDt (List.mem_singleton.mp z)
   ·rcases List.mem_append.mp hb' with z | z
    ·have hbt:b≠t:=fun e=>hta (e ▸ z)
     have hbD:b≠D2:=fun e=>hDn (e ▸ z)
     rw [upd_ne hbD,upd_ne hbt]
     exact hb b z
    ·have e:=List.mem_singleton.mp z
     subst e
     rw [upd_ne (Ne.symm hDt),upd_same]
     exact ⟨rfl,s6.free ht⟩
  rintro σ6 ys6 H6 ⟨as,v6,s56,hD6,rfl,nd,hDn,hla,hb,rfl⟩
  have s26:=s25.trans s56
  have hcl6:=s56 _ _ hcl
  have hcn:cl ∉ as:=fun z=>by rw [(hb cl z).2] at hcl; cases hcl
  have htn:∀ t∈ts,t ∉ as:=fun t ht z=>by
   obtain ⟨x,y,z',e⟩:=hT5 t ht
   rw [(hb t z).2] at e; cases e
  have hT6:=hT5.same s56
  refine ⟨_,rfl,cl,rfl,⟨_,SqL.of hcl6⟩,for_list (xs:=ts.map V.ref) (fun i σ H'=>Ex_4_2 (fun (hs:Rows) (v7 v8 v9:Option V)=>FillS H6 H' as i D2 hs) (fun hs v7 v8 v9=>σ=[some (.ref a),some (.int first),some (.int m),some (.int lv),some (.ref cl),v5,some (.ref D2),v7,v8,v9,none,none])) ?_ ?_ ?_ ?_⟩
  ·refine ⟨as.map fun b=>(b,[]),none,none,none,⟨hD6,?_,fun j h e=>?_,fun j h e=>?_,fun b u _ e=>e⟩,rfl⟩
   ·rw [List.map_map]; exact List.map_id' as
   ·obtain ⟨b,hb6,e2⟩:∃ b,as[j]?=some b∧h=(b,[]):=by
     rw [List.getElem?_map] at e
     cases e3:as[j]? with
     | none=>rw [e3] at e; cases e
     | some b=>rw [e3] at e; exact ⟨b,rfl,(Option.some.inj e).symm⟩
    rw [e2]
    exact (hb b (List.mem_of_getElem? hb6)).1
   ·have e2:h.2=[]:=by
     rw [List.getElem?_map] at e
     cases e3:as[j]? with
     | none=>rw [e3] at e; cases e
     | some b=>rw [e3] at e; rw [← Option.some.inj e]
    rw [e2]
    exact ⟨Nat.le_refl _,fun x hx=>by cases hx⟩
  ·rintro i σ H7 _ ⟨hs,v7,v8,v9,F,_⟩
   exact F.ex.seq hcn (SqL.of hcl6)
  ·rintro i y σ H7 hy ⟨hs,v7,v8,v9,F,rfl⟩
   obtain ⟨t,ht,rfl⟩:=refs_get hy
   have hi':i < ts.length:=(List.getElem?_eq_some_iff.mp ht).1
   obtain ⟨kx,ox,rx,hTt⟩:=F.ex.tris htn hT6 t (List.mem_of_getElem? ht)
   have hlen:hs.length=as.length:=by rw [← F.eq,List.length_map]
   refine ⟨t,_,rfl,SqT.of hTt,rfl,_,_,rfl,_,_,rfl,_,_,rfl,rfl,?_⟩
   refine ⟨_,rfl,_,rfl,_,rfl,kx,7,m,rfl,by decide,by decide,by lia,fun r H8 s8 r0 r1=>?_⟩
   have F8:=F.same s8
   obtain ⟨j,rfl⟩:=Int.eq_ofNat_of_zero_le r0
   have hjl:j < hs.length:=by lia
   have ej:hs[j]?=some hs[j]:=List.getElem?_eq_getElem hjl
   have ea:as[j]?=some hs[j].1:=by rw [← F8.eq,List.getElem?_map,ej]; rfl
   refine ⟨D2,_,_,_,rfl,rfl,SqL.of F8.l,atI_nat (v:=V.ref hs[j].1) (by rw [List.getElem?_map,ea]; rfl),.inl ⟨rfl,_,SqL.of (F8.at_ j _ ej)⟩,_,rfl,kx,0,5,rfl,by decide,by decide,by decide,fun kd H9 s9 _ _=>?_⟩
   have F9:=F8.same s9
   refine ⟨_,rfl,_,rfl,kd,ox,rx,rfl,fun x H10 s10 hx=>?_⟩
   have F10:=F9.same s10
   have hl0:=(F10.ok j _ ej).1
   refine ⟨hs[j].1,_,_,rfl,rfl,F10.at_ j _ ej,(by rw [List.length_map]; exact small1000 (by lia)),_,_,_,_,F10.more nd hDn ej hx,rfl⟩
  rintro σ7 H7 ⟨hs,v7,v8,v9,F,rfl⟩
  rw [List.length_map] at F
  have hlen:hs.length=as.length:=by rw [← F.eq,List.length_map]
  have s07:Same H H7:=fun b u e=>F.ex b u (fun z=>by
   have n:=(s02.trans s25).free (hb b z).2
   rw [n] at e; cases e) ((s02.trans s26) b u e)
  refine ⟨by decide,fun f hf=>?_⟩
  refine ⟨_,rfl,D2,rfl,⟨_,(Same.new hf).seq (SqL.of F.l)⟩,for_list (xs:=as.map V.ref) (fun i σ H'=>Ex_2_5 (fun (S:List Str) (v11:Option V)=>Same H7 H') (fun S v11=>H' f=some (.lst (S.map V.str))) (fun S v11=>S.length=i) (fun S v11=>(∀ x∈S,x.length≤9000)) (fun S v11=>σ=[some (.ref a),some (.int first),some (.int m),some (.int lv),some (.ref cl),v5,some (.ref D2),v7,v8,v9,some (.ref f),v11])) ?_ ?_ ?_ ?_⟩
  ·exact ⟨[],none,Same.new hf,upd_same,rfl,(fun x hx=>by cases hx),rfl⟩
  ·rintro i σ H8 _ ⟨S,v11,s8,_⟩
   exact s8.seq (SqL.of F.l)
  ·rintro i y σ H8 hy ⟨S,v11,s8,hf8,hSl,hSx,rfl⟩
   obtain ⟨b,hb8,rfl⟩:=refs_get hy
   have hi':i < as.length:=(List.getElem?_eq_some_iff.mp hb8).1
   obtain ⟨h0,ej⟩:∃ h,hs[i]?=some h:=⟨_,List.getElem?_eq_getElem (by lia)⟩
   have eb:h0.1=b:=by
    have:as[i]?=some h0.1:=by rw [← F.eq,List.getElem?_map,ej]; rfl
    rw [hb8] at this
    exact (Option.some.inj this).symm
   have hrow:=F.at_ i _ ej
   rw [eb] at hrow
   obtain ⟨o1,o2⟩:=F.ok i _ ej
   refine ⟨fun σ' H'=>Ex_2_5 (fun (l:Addr) (ss:List Str)=>Same H8 H') (fun l ss=>SqL K H' l (ss.map V.str)) (fun l ss=>ss.length≤44) (fun l ss=>(∀ x∈ss,x.length≤200)) (fun l ss=>σ'=[some (.ref a),some (.int first),some (.int m),some (.int lv),some (.ref cl),v5,some (.ref D2),v7,v8,v9,some (.ref f),some (.ref l)]),?_,?_⟩
   ·refine ⟨_,rfl,b,_,rfl,.inl (SqL.of (s8 _ _ hrow)),rfl,_,rfl,ite2 (fun _=>?_) (fun _=>?_)⟩
    ·refine ⟨(by show 1≤sizeLine; decide),fun l hl=>⟨l,["idle"],Same.new hl,SqL.new,by decide,fun x hx=>?_,rfl⟩⟩
     rw [List.mem_singleton.mp hx]
     decide +kernel
    ·exact ⟨b,h0.2,Same.refl _,SqL.of (s8 _ _ hrow),by lia,o2,rfl⟩
   ·rintro σ' H9 ⟨l,ss,s9,hl9,hss,hsx,rfl⟩
    refine ⟨_,rfl,.inl ⟨rfl,_,SqL.of (s9 _ _ hf8)⟩,rfl,_,rfl,"; ",l,ss,rfl,rfl,hl9,?_,?_⟩
    ·exact joinOk_of (B:=200) hsx (by show ss.length * 200 + ss.length * 2≤16777216; lia)
    ·refine ⟨f,_,_,rfl,rfl,s9 _ _ hf8,(by rw [List.length_map]; exact small1000 (by lia)),S ++ [_],_,Same.at hf (s8.trans s9),by rw [upd_same,List.map_append]; rfl,by rw [List.length_append,hSl]; rfl,fun x hx=>?_,rfl⟩
     rcases List.mem_append.mp hx with hx | hx
     ·exact hSx x hx
     ·rw [List.mem_singleton.mp hx]
      have:=join_len (sep:="; ") (B:=200) hsx
      have e2:("; ":Str).length=2:=by decide +kernel
      rw [e2] at this
      lia
  ·rintro σ8 H8 ⟨S,v11,s8,hf8,hSl,hSx,rfl⟩
   rw [List.length_map] at hSl
   exact ⟨_,rfl,q f S H8 (s07.trans s8) (s07.free hf) hf8 (by lia) (by lia) hSx⟩
end
end Own
set_option Elab.async false
set_option linter.all false
set_option maxRecDepth 100000
set_option maxHeartbeats 800000
namespace Own
open PySem L2
inductive Sp_Lodd (K:PySem.W.Frag) (vs:List V) (H:Hp) (Q:VK) (E_:XK):Prop
 | mk (c:Int) (h0_:vs=[.int c]) (h1_:∀ (x:Str) H',Same H H'→x.length≤100→Q (.str x) H'):Sp_Lodd K vs H Q E_
noncomputable def sp_Lodd (K:PySem.W.Frag):Sp:=Sp_Lodd K
inductive Sp_Lspoiled (K:PySem.W.Frag) (vs:List V) (H:Hp) (Q:VK) (E_:XK):Prop
 | mk (l:Addr) (a:Addr) (S:List Str) (ns:List Int) (h0_:vs=[.ref l,.ref a]) (h1_:SqL K H l (S.map V.str)) (h2_:SqL K H a (ns.map V.int)) (h3_:1≤S.length) (h4_:S.length≤8) (h5_:(∀ x∈S,x.length≤9000)) (h6_:∀ (z:Str) H',Same H H'→z.length≤150000→Q (.str z) H'):Sp_Lspoiled K vs H Q E_
noncomputable def sp_Lspoiled (K:PySem.W.Frag):Sp:=Sp_Lspoiled K
theorem strs_atI {S:List Str} {i:Int} (h0:0≤i) (h1:i < S.length):∃ z∈S,atI (S.map V.str) i=some (.str z):=by
 obtain ⟨j,rfl⟩:=Int.eq_ofNat_of_zero_le h0
 have hj:j < S.length:=by lia
 exact ⟨S[j],List.getElem_mem hj,atI_nat (by rw [List.getElem?_map,List.getElem?_eq_getElem hj]; rfl)⟩
noncomputable abbrev odds:List Str:=[""," ","idle ","Idle","idle; idle","put","put x","put x 01","put x -0","put x +1","put x 1 "," put x 1","put  x 1","put X 1","put abcdefghi 1","put x 1;","put x 1;get a x","get a","get a x 1","get a 1","swap a x","swap a x b","fence 1","fences","bar when a","bar when a b","bar if a 1","put x 1 when a","put x 1_0"]
theorem odds_len:odds.length=29:=by decide +kernel
theorem odds_short:∀ x∈odds,x.length≤100:=by decide +kernel
theorem ix_in {n:Nat} {k:Int} (h0:0≤k) (h1:k < (n:Int)):ixN n k=some k.toNat:=by
 unfold ixN
 rw [if_pos h0,if_pos h1]
section
variable {P:Program} {w:World} {K:PySem.W.Frag} {mg:Str→Option Value} {base:Heap}
theorem signs_fit:(" !\"#$&'()*+,-./0123456789:;<=>?@ABCDEFGHIJKLMNOPQRSTUVWXYZ[\\]^_`abcdefghijklmnopqrstuvwxyz{|}~":Str).length≤sizeLine:=by rw [sizeLine_eq]; decide +kernel
theorem signs_pos:0 < (" !\"#$&'()*+,-./0123456789:;<=>?@ABCDEFGHIJKLMNOPQRSTUVWXYZ[\\]^_`abcdefghijklmnopqrstuvwxyz{|}~":Str).length:=by decide +kernel
theorem sc_Lspoiled:FnScope ["_law_hands_here","_law_script","_law_way","_law_at","_law_text","_law_signs","_law_sign"] ["_law_hands_here","_law_script"] (defScope s_Lspoiled):=⟨rfl,rfl,rfl,by decide +kernel,rfl,by decide +kernel,by decide +kernel⟩
theorem ok_Lspoiled {f:Addr} {fd:FuncData} (F:Fun K "_law_spoiled" "_law_spoiled" s_Lspoiled f fd) (T:Txt K mg) (h_Lcellat:Has P w K mg base 1 "_law_cell_at" ["_law_script","_law_k"] (sp_Lcellat K)) (h_Lodd:Has P w K mg base 1 "_law_odd" ["_law_cell"] (sp_Lodd K)):FnOk P w K mg base CX0 2 f fd ["_law_hands_here","_law_script"] (sp_Lspoiled K):=by
 refine F.ok (k:=1) sc_Lspoiled (fun vs H Q E h=>?_) (fun cdv A outer s H vs Q E hr h=>?_)
 ·obtain ⟨l,a,S,ns,rfl,_⟩:=h
  rfl
 ·obtain ⟨l,a,S,ns,rfl,hL,hA,hS1,hS8,hSx,q⟩:=h
  refine ⟨_,(pss_cons (ps_set (i:=2) sc_Lspoiled.nd rfl (Or.inl rfl) (pe_op op_mod (pe_fn h_Lcellat (hr.mono (by decide)) (pa_cons (pv 1) (pa_cons pe_int pa_nil))) pe_int))
   (pss_cons (ps_set (i:=3) sc_Lspoiled.nd rfl (Or.inl rfl) (pe_fn h_Lcellat (hr.mono (by decide)) (pa_cons (pv 1) (pa_cons pe_int pa_nil))))
   (pss_cons (ps_set (i:=0) sc_Lspoiled.nd rfl (Or.inl rfl) (pe_callTy call_list_of rfl T.n_list bt_list (pa_cons (pv 0) pa_nil)))
   (pss_cut (ps_if (pt_cmpR op_eq (pv 2) pe_int (nomark _))
   (pss_one (ps_asg (pe_fn h_Lodd (hr.mono (by decide)) (pa_cons (pe_fn h_Lcellat (hr.mono (by decide)) (pa_cons (pv 1) (pa_cons pe_int pa_nil))) pa_nil)) (pg_sub (pv 0) (pe_op op_mod (pv 3) (pe_callB call_len_seq rfl T.n_len bt_len (pa_cons (pv 0) pa_nil))) set_list)))
   pss_nil)
   (pss_cons (ps_set (i:=4) sc_Lspoiled.nd rfl (Or.inl rfl) (pe_bm PySem.F.plainAttrs_str PySem.F.slot_str_join PySem.F.type_str_join mt_join pe_str (pa_cons (pv 0) pa_nil)))
   (pss_cons (ps_set (i:=5) sc_Lspoiled.nd rfl (Or.inl rfl) pe_str)
   (pss_cons (ps_set (i:=3) sc_Lspoiled.nd rfl (Or.inl rfl) (pe_op op_mod (pv 3) (pe_callB call_len_str rfl T.n_len bt_len (pa_cons (pe_op op_add_str (pv 4) pe_str) pa_nil))))
   (pss_cons (ps_set (i:=6) sc_Lspoiled.nd rfl (Or.inl rfl) (pe_ix ix_str (pv 5) (pe_op op_mod (pe_fn h_Lcellat (hr.mono (by decide)) (pa_cons (pv 1) (pa_cons pe_int pa_nil))) (pe_callB call_len_str rfl T.n_len bt_len (pa_cons (pv 5) pa_nil))) (fun _ _=>rfl)))
   (pss_cons (ps_if (pt_cmpR op_eq (pv 2) pe_int (nomark _))
   (pss_one (ps_ret (pe_op op_add_str (pe_op op_add_str (pe_slice sl_str (pv 4) po_none (po_some (pv 3))) (pv 6)) (pe_slice sl_str (pv 4) (po_some (pv 3)) po_none))))
   pss_nil)
   (pss_cons (ps_if (pt_cmpR op_eq (pv 2) pe_int (nomark _))
   (pss_one (ps_ret (pe_op op_add_str (pe_slice sl_str (pv 4) po_none (po_some (pv 3))) (pe_slice sl_str (pv 4) (po_some (pe_op op_add (pv 3) pe_int)) po_none))))
   pss_nil)
   (pss_cons (ps_if (pt_cmpR op_eq (pv 2) pe_int (nomark _))
   (pss_one (ps_ret (pe_op op_add_str (pe_op op_add_str (pe_slice sl_str (pv 4) po_none (po_some (pv 3))) (pv 6)) (pe_slice sl_str (pv 4) (po_some (pe_op op_add (pv 3) pe_int)) po_none))))
   pss_nil)
   (pss_one (ps_ret (pv 4)))))))))))))),?_⟩
  refine ⟨_,rfl,a,ns,1,rfl,hA,by decide,_,_,rfl,rfl,(by show (0:Int) < 5; decide),_,rfl,a,ns,2,rfl,hA,by decide,?_⟩
  refine ⟨_,rfl,l,_,rfl,.inl hL,fun l2 hl2=>?_⟩
  refine ⟨fun σ' H'=>Ex_3_5 (fun (S':List Str) (way at0:Int)=>Same H H') (fun S' way at0=>H' l2=some (.lst (S'.map V.str))) (fun S' way at0=>S'.length=S.length) (fun S' way at0=>(∀ x∈S',x.length≤9000)) (fun S' way at0=>σ'=[some (.ref l2),some (.ref a),some (.int way),some (.int at0),none,none,none]),?_,?_⟩
  ·refine ⟨_,rfl,rfl,_,rfl,ite2 (fun _=>?_) (fun _=>?_)⟩
   ·refine ⟨_,rfl,a,ns,3,rfl,(Same.new hl2).seq hA,by decide,_,rfl,fun x H2 s2 hx=>?_⟩
    have hl3:H2 l2=some (.lst (S.map V.str)):=s2 _ _ upd_same
    have hpos:(0:Int) < ((S.map V.str).length:Int):=by rw [List.length_map]; lia
    refine ⟨_,rfl,_,rfl,_,rfl,l2,_,rfl,.inl (SqL.of hl3),_,_,rfl,rfl,hpos,l2,_,_,_,rfl,rfl,hl3,ix_in (Int.emod_nonneg _ (by lia)) (Int.emod_lt_of_pos _ hpos),S.set (ns.getD (2:Int).toNat 0 % ((S.map V.str).length:Int)).toNat x,_,_,Same.at hl2 ((Same.new hl2).trans s2),?_,by rw [List.length_set],fun y hy=>?_,rfl⟩
    ·rw [upd_same,List.map_set]
    ·rcases List.mem_or_eq_of_mem_set hy with hy | hy
     ·exact hSx y hy
     ·rw [hy]; lia
   ·exact ⟨S,_,_,Same.new hl2,upd_same,rfl,hSx,rfl⟩
  ·rintro σ' H1 ⟨S',way,at0,s1,hl3,hS',hSx',rfl⟩
   refine ⟨rfl,_,rfl," | ",l2,S',rfl,rfl,SqL.of hl3,?_,?_⟩
   ·exact joinOk_of (B:=9000) hSx' (by show S'.length * 9000 + S'.length * 3≤16777216; lia)
   have htl:(Str.join " | " S').length≤72024:=by
    have:=join_len (sep:=" | ") (B:=9000) hSx'
    have e2:(" | ":Str).length=3:=by decide +kernel
    rw [e2] at this
    lia
   generalize Str.join " | " S'=z at htl
   have b1:=glue_len (b:="x") (n:=1) htl (by decide +kernel)
   have bz:z.length≤sizeLine:=Nat.le_of_lt (big_ok (by lia))
   have hA1:=s1.seq hA
   refine ⟨_,rfl,_,rfl,_,_,rfl,rfl,glue b1,_,rfl,Nat.le_of_lt (big_ok (by lia)),_,_,rfl,rfl,?_,?_⟩
   ·show (0:Int) < ((z ++ "x").length:Int)
    have e:("x":Str).length=1:=by decide +kernel
    rw [len_app,e]; lia
   obtain ⟨sg0,hsg⟩:=sign_at (x:=" !\"#$&'()*+,-./0123456789:;<=>?@ABCDEFGHIJKLMNOPQRSTUVWXYZ[\\]^_`abcdefghijklmnopqrstuvwxyz{|}~") (i:=ns.getD (3:Int).toNat 0 % ((" !\"#$&'()*+,-./0123456789:;<=>?@ABCDEFGHIJKLMNOPQRSTUVWXYZ[\\]^_`abcdefghijklmnopqrstuvwxyz{|}~":Str).length:Int))
    (Int.emod_nonneg _ (by have:=signs_pos; lia)) (Int.emod_lt_of_pos _ (by have:=signs_pos; lia))
   refine ⟨_,rfl,_,rfl,a,ns,3,rfl,hA1,by decide,_,rfl,_,rfl,signs_fit,_,_,rfl,rfl,(by have:=signs_pos; show (0:Int) < ((" !\"#$&'()*+,-./0123456789:;<=>?@ABCDEFGHIJKLMNOPQRSTUVWXYZ[\\]^_`abcdefghijklmnopqrstuvwxyz{|}~":Str).length:Int); lia),_,_,sg0,rfl,rfl,signs_fit,hsg,?_⟩
   have c1:∀ lo hi,(Txt.slice z lo hi).length≤72024:=fun lo hi=>Nat.le_trans (Txt.slice_le z lo hi) htl
   have one:(⟨#[sg0]⟩:Str).length≤1:=Nat.le_refl _
   have w1:∀ lo hi,(Txt.slice z lo hi ++ ⟨#[sg0]⟩).length≤72025:=fun lo hi=>glue_len (c1 lo hi) one
   have w2:∀ lo hi lo' hi',(Txt.slice z lo hi ++ ⟨#[sg0]⟩ ++ Txt.slice z lo' hi').length≤144049:=fun lo hi lo' hi'=>glue_len (w1 lo hi) (c1 lo' hi')
   have w3:∀ lo hi lo' hi',(Txt.slice z lo hi ++ Txt.slice z lo' hi').length≤144048:=fun lo hi lo' hi'=>glue_len (c1 lo hi) (c1 lo' hi')
   refine ⟨_,rfl,rfl,_,rfl,ite2 (fun _=>?_) (fun _=>?_)⟩
   ·exact ⟨_,rfl,_,rfl,_,rfl,z,rfl,bz,_,rfl,_,_,rfl,rfl,glue (w1 _ _),_,rfl,_,rfl,_,rfl,z,rfl,bz,_,_,rfl,rfl,glue (w2 _ _ _ _),q _ _ s1 (Nat.le_trans (w2 _ _ _ _) (by decide))⟩
   refine ⟨_,rfl,rfl,_,rfl,ite2 (fun _=>?_) (fun _=>?_)⟩
   ·exact ⟨_,rfl,_,rfl,_,rfl,z,rfl,bz,_,rfl,_,rfl,_,_,rfl,rfl,_,rfl,z,rfl,bz,_,_,rfl,rfl,glue (w3 _ _ _ _),q _ _ s1 (Nat.le_trans (w3 _ _ _ _) (by decide))⟩
   refine ⟨_,rfl,rfl,_,rfl,ite2 (fun _=>?_) (fun _=>?_)⟩
   ·exact ⟨_,rfl,_,rfl,_,rfl,z,rfl,bz,_,rfl,_,_,rfl,rfl,glue (w1 _ _),_,rfl,_,rfl,_,_,rfl,rfl,_,rfl,z,rfl,bz,_,_,rfl,rfl,glue (w2 _ _ _ _),q _ _ s1 (Nat.le_trans (w2 _ _ _ _) (by decide))⟩
   ·exact ⟨_,rfl,q _ _ s1 (by lia)⟩
end
end Own
set_option Elab.async false
set_option linter.all false
set_option maxRecDepth 100000
set_option maxHeartbeats 4100000
namespace Own
open PySem L2
section
variable {P:Program} {w:World} {K:PySem.W.Frag} {mg:Str→Option Value} {base:Heap}
theorem sc_Lodd:FnScope ["_law_cell","_law_some"] ["_law_cell"] (defScope s_Lodd):=⟨rfl,rfl,rfl,by decide +kernel,rfl,by decide +kernel,by decide +kernel⟩
theorem ok_Lodd {f:Addr} {fd:FuncData} (F:Fun K "_law_odd" "_law_odd" s_Lodd f fd) (T:Txt K mg) :FnOk P w K mg base CX0 1 f fd ["_law_cell"] (sp_Lodd K):=by
 refine F.ok (k:=0) sc_Lodd (fun vs H Q E h=>?_) (fun cdv A outer s H vs Q E hr h=>?_)
 ·obtain ⟨c,rfl,_⟩:=h
  rfl
 ·obtain ⟨c,rfl,q⟩:=h
  refine ⟨_,(pss_cons (ps_set (i:=1) sc_Lodd.nd rfl (Or.inl rfl) (pe_lst (pa_strs (.cons (.cons (.cons (.cons (.cons (.cons (.cons (.cons (.cons (.cons .nil)))))))))))))
   (pss_cons (ps_set (i:=1) sc_Lodd.nd rfl (Or.inl rfl) (pe_op op_cat (pv 1) (pe_lst (pa_strs (.cons (.cons (.cons (.cons (.cons (.cons (.cons .nil)))))))))))
   (pss_cons (ps_set (i:=1) sc_Lodd.nd rfl (Or.inl rfl) (pe_op op_cat (pv 1) (pe_lst (pa_strs (.cons (.cons (.cons (.cons (.cons (.cons (.cons (.cons .nil))))))))))))
   (pss_cons (ps_set (i:=1) sc_Lodd.nd rfl (Or.inl rfl) (pe_op op_cat (pv 1) (pe_lst (pa_cons pe_str (pa_cons pe_str (pa_cons pe_str (pa_cons pe_str (pa_cons (pe_op op_add_str pe_str (pe_op op_repS pe_str pe_int)) pa_nil))))))))
   (pss_one (ps_ret (pe_ix ix_list (pv 1) (pe_op op_mod (pv 0) pe_int) (fun _ _=>rfl)))))))),?_⟩
  refine ⟨(by show 10≤sizeLine; decide),fun l1 h1=>⟨_,rfl,(by show 7≤sizeLine; decide),fun l2 h2=>⟨l1,l2,_,_,rfl,rfl,Same.new h2 _ _ upd_same,upd_same,(by show 10 + 7≤sizeLine; decide),fun l3 h3=>?_⟩⟩⟩
  refine ⟨_,rfl,(by show 8≤sizeLine; decide),fun l4 h4=>⟨l3,l4,_,_,rfl,rfl,Same.new h4 _ _ upd_same,upd_same,(by show 17 + 8≤sizeLine; decide),fun l5 h5=>?_⟩⟩
  refine ⟨_,rfl,_,_,rfl,rfl,by decide +kernel,by decide,by decide,fun u hu=>?_⟩
  have hul:("put x " ++ u).length≤100:=by
   have e:u.length=61:=hu
   have e2:("put x ":Str).length=6:=by decide +kernel
   rw [len_app]; lia
  refine ⟨_,_,rfl,rfl,glue hul,(by show 5≤sizeLine; decide),fun l6 h6=>⟨l5,l6,_,_,rfl,rfl,Same.new h6 _ _ upd_same,upd_same,(by show 25 + 5≤sizeLine; decide),fun l7 h7=>?_⟩⟩
  obtain ⟨z,hzS,hz⟩:=strs_atI (S:=odds ++ ["put x " ++ u]) (i:=c % 30) (Int.emod_nonneg _ (by decide)) (by
   rw [List.length_append,odds_len]
   exact Int.emod_lt_of_pos _ (by decide))
  refine ⟨_,rfl,_,rfl,_,_,rfl,rfl,(by show (0:Int) < 30; decide),l7,_,_,_,rfl,rfl,SqL.new,hz,q z _ (((((((Same.new h1).then h2).then h3).then h4).then h5).then h6).then h7) ?_⟩
  rcases List.mem_append.mp hzS with hzS | hzS
  ·exact odds_short z hzS
  ·rw [List.mem_singleton.mp hzS]; exact hul
end
end Own
set_option Elab.async false
set_option linter.all false
set_option maxRecDepth 100000
set_option maxHeartbeats 800000
namespace Own
open PySem L2
inductive Sp_Lisname (K:PySem.W.Frag) (vs:List V) (H:Hp) (Q:VK) (E_:XK):Prop
 | mk (z:Str) (h0_:vs=[.str z]) (h1_:z.length≤150000) (h2_:Q (.bl (isNam z)) H):Sp_Lisname K vs H Q E_
noncomputable def sp_Lisname (K:PySem.W.Frag):Sp:=Sp_Lisname K
inductive Sp_Lisnumber (K:PySem.W.Frag) (vs:List V) (H:Hp) (Q:VK) (E_:XK):Prop
 | mk (z:Str) (h0_:vs=[.str z]) (h1_:z.length≤150000) (h2_:Q (.bl (isNum z)) H):Sp_Lisnumber K vs H Q E_
noncomputable def sp_Lisnumber (K:PySem.W.Frag):Sp:=Sp_Lisnumber K
inductive Sp_Lparts (K:PySem.W.Frag) (vs:List V) (H:Hp) (Q:VK) (E_:XK):Prop
 | mk (z:Str) (y:Str) (h0_:vs=[.str z,.str y]) (h1_:z.length≤150000) (h2_:1≤y.length) (h3_:y.length≤3) (h4_:Builtin.Str.strKind y=1) (h5_:∀ l H',Same H H'→H l=none→H' l=some (.lst ((Txt.split z y).map V.str))→Q (.ref l) H'):Sp_Lparts K vs H Q E_
noncomputable def sp_Lparts (K:PySem.W.Frag):Sp:=Sp_Lparts K
theorem in_one (z:Str) (c:Nat):(!(Builtin.Str.occurrences z ⟨#[c]⟩ 0 z.length 1).isEmpty)=decide (c∈sg z):=StrLaws.found_one z c
theorem madeOf_len {z s:Str} {m:Int} (h:∀ c∈sg z,c∈sg s):madeOf z s m=(decide ((1:Int)≤z.length) && decide ((z.length:Int)≤m)):=by
 unfold madeOf
 rw [List.all_eq_true.mpr fun c hc=>decide_eq_true (h c hc),Bool.and_true]
theorem madeOf_no {z s:Str} {m:Int} {c:Nat} (hc:c∈sg z) (h:¬ c∈sg s):madeOf z s m=false:=by
 unfold madeOf
 rw [Bool.and_eq_false_iff]
 exact .inr (List.all_eq_false.mpr ⟨c,hc,by rw [decide_eq_false h]; exact Bool.false_ne_true⟩)
theorem sg_take_succ {z:Str} {i c:Nat} (h:z.cps[i]?=some c):(sg z)[i]?=some c:=by
 show z.cps.toList[i]?=some c
 rw [Array.getElem?_toList]; exact h
theorem take_in {z s:Str} {i c:Nat} (hc:(sg z)[i]?=some c) (h:∀ d∈(sg z).take i,d∈sg s) (hi:c∈sg s):∀ d∈(sg z).take (i + 1),d∈sg s:=fun d hd=>by
 rw [List.take_add_one,hc] at hd
 rcases List.mem_append.mp hd with hd | hd
 ·exact h d hd
 ·rw [List.mem_singleton.mp hd]; exact hi
section
variable {P:Program} {w:World} {K:PySem.W.Frag} {mg:Str→Option Value} {base:Heap}
theorem sc_Lisname:FnScope ["_law_word","_law_sign"] ["_law_word"] (defScope s_Lisname):=⟨rfl,rfl,rfl,by decide +kernel,rfl,by decide +kernel,by decide +kernel⟩
theorem ok_Lisname {f:Addr} {fd:FuncData} (F:Fun K "_law_is_name" "_law_is_name" s_Lisname f fd) (T:Txt K mg) :FnOk P w K mg base CX0 1 f fd ["_law_word"] (sp_Lisname K):=by
 refine F.ok (k:=0) sc_Lisname (fun vs H Q E h=>?_) (fun cdv A outer s H vs Q E hr h=>?_)
 ·obtain ⟨z,rfl,_⟩:=h
  rfl
 ·obtain ⟨z,rfl,hz,q⟩:=h
  refine ⟨_,(pss_cons (ps_for PassesOwn.never rfl (pi_text (pv 0)) (pg_name (i:=1) sc_Lisname.nd rfl (Or.inl rfl))
   (pss_one (ps_if (pt_cmpR op_notIn_str (pv 1) pe_str (by with_unfolding_all rfl))
   (pss_one (ps_ret pe_bl))
   pss_nil)))
   (pss_one (ps_ret (pe_chain op_lt op_lt pe_int (pe_callB call_len_str rfl T.n_len bt_len (pa_cons (pv 0) pa_nil)) pe_int)))),?_⟩
  have bz:z.length≤sizeLine:=Nat.le_of_lt (big_ok (by lia))
  refine ⟨_,rfl,z,rfl,for_text (fun i σ H'=>H'=H∧(∀ d∈(sg z).take i,d∈sg LET)∧∃ v,σ=[some (.str z),v]) ?_ ?_ ?_⟩
  ·exact ⟨rfl,(fun d hd=>by cases hd),none,rfl⟩
  ·rintro i c σ H' hc ⟨rfl,hi,v,rfl⟩
   have hc':=sg_take_succ hc
   refine ⟨_,rfl,_,_,rfl,rfl,_,rfl,ifB (fun cc=>?_) (fun cc=>?_)⟩
   ·rw [in_one] at cc
    have hn:¬ c∈sg LET:=fun z=>by rw [decide_eq_true z] at cc; cases cc
    refine qb q ?_
    unfold isNam
    exact madeOf_no (List.mem_of_getElem? hc') hn
   ·rw [in_one] at cc
    have hn:c∈sg LET:=by simpa using cc
    exact ⟨rfl,take_in hc' hi hn,_,rfl⟩
  ·rintro σ H' ⟨rfl,hi,v,rfl⟩
   have hall:∀ d∈sg z,d∈sg LET:=fun d hd=>hi d (by rw [List.take_of_length_le (by show (sg z).length≤z.cps.size; rw [sg_len]; exact Nat.le_refl _)]; exact hd)
   have e:isNam z=(decide ((1:Int)≤z.length) && decide ((z.length:Int)≤8)):=madeOf_len hall
   refine ⟨_,rfl,z,rfl,bz,_,_,rfl,rfl,_,rfl,ifD (fun c1=>?_) (fun c1=>?_)⟩
   ·refine ⟨_,_,rfl,rfl,qb q ?_⟩
    rw [e,decide_eq_true (by lia),Bool.true_and]
    exact decide_eq_decide.mpr (by lia)
   ·refine qb q ?_
    rw [e,decide_eq_false (by lia),Bool.false_and]
theorem slice1 (z:Str) (c:Nat):Txt.slice z none (some 1)=⟨#[c]⟩ ↔ (sg z).head?=some c:=by
 by_cases h:z.length=0
 ·have e:sg z=[]:=List.length_eq_zero_iff.mp (by rw [sg_len]; exact h)
  have l:=Txt.slice_le z none (some 1)
  constructor
  ·intro x
   rw [x,h] at l
   exact absurd l (by show ¬ 1≤0; decide)
  ·intro x
   rw [e] at x; cases x
 ·have e0:Txt.slice z none (some 1)=Txt.slice z (some ((0:Nat):Int)) (some ((1:Nat):Int)):=by
   unfold Txt.slice
   have e:Builtin.Str.strSliceIndices none (some 1) 1 z.length=Builtin.Str.strSliceIndices (some ((0:Nat):Int)) (some ((1:Nat):Int)) 1 z.length:=by
    unfold Builtin.Str.strSliceIndices
    have e:max 0 (min (if ((0:Nat):Int) < 0 then ((0:Nat):Int) + (z.length:Int) else ((0:Nat):Int)) (z.length:Int))=0:=by
     rw [if_neg (by lia)]; lia
    simp only [show (1:Int) > 0 by decide,if_true,e]
    rfl
   rw [e]
  have e1:sg (Txt.slice z none (some 1))=(sg z).take 1:=by rw [e0,slice_mid (by decide) (by lia),List.drop_zero]
  constructor
  ·intro x
   rw [x] at e1
   have e2:[c]=(sg z).take 1:=e1
   cases q:sg z with
   | nil=>rw [q] at e2; cases e2
   | cons d r=>rw [q] at e2; cases e2; rfl
  ·intro x
   refine sg_inj ?_
   rw [e1]
   cases q:sg z with
   | nil=>rw [q] at x; cases x
   | cons d r=>rw [q] at x; cases x; rfl
theorem slice1_minus (z:Str):decide (V.str (Txt.slice z none (some 1))=V.str "-")=Txt.startswith z "-":=by
 rw [sw_minus]
 refine decide_eq_decide.mpr ⟨fun h=>(slice1 z 45).mp (V.str.inj h),fun h=>congrArg V.str ((slice1 z 45).mpr h)⟩
theorem sc_Lisnumber:FnScope ["_law_word","_law_sign"] ["_law_word"] (defScope s_Lisnumber):=⟨rfl,rfl,rfl,by decide +kernel,rfl,by decide +kernel,by decide +kernel⟩
theorem ok_Lisnumber {f:Addr} {fd:FuncData} (F:Fun K "_law_is_number" "_law_is_number" s_Lisnumber f fd) (T:Txt K mg) :FnOk P w K mg base CX0 1 f fd ["_law_word"] (sp_Lisnumber K):=by
 refine F.ok (k:=0) sc_Lisnumber (fun vs H Q E h=>?_) (fun cdv A outer s H vs Q E hr h=>?_)
 ·obtain ⟨z,rfl,_⟩:=h
  rfl
 ·obtain ⟨z,rfl,hz,q⟩:=h
  refine ⟨_,(pss_cut (ps_if (pt_cmpR op_eq (pe_slice sl_str (pv 0) po_none (po_some pe_int)) pe_str (nomark _))
   (pss_cons (ps_set (i:=0) sc_Lisnumber.nd rfl (Or.inl rfl) (pe_slice sl_str (pv 0) (po_some pe_int) po_none))
   (pss_one (ps_if (pt_cmpR op_eq (pv 0) pe_str (nomark _))
   (pss_one (ps_ret pe_bl))
   pss_nil)))
   pss_nil)
   (pss_cons (ps_for PassesOwn.never rfl (pi_text (pv 0)) (pg_name (i:=1) sc_Lisnumber.nd rfl (Or.inl rfl))
   (pss_one (ps_if (pt_cmpR op_notIn_str (pv 1) pe_str (by with_unfolding_all rfl))
   (pss_one (ps_ret pe_bl))
   pss_nil)))
   (pss_one (ps_ret (pe_and (pe_chain op_lt op_lt pe_int (pe_callB call_len_str rfl T.n_len bt_len (pa_cons (pv 0) pa_nil)) pe_int) (pe_one (pe_or (pe_cmpR op_ne (pe_ix ix_str (pv 0) pe_int (fun _ _=>rfl)) pe_str (nomark _)) (pe_one (pe_cmpR op_eq (pv 0) pe_str (nomark _)))))))))),?_⟩
  have bz:z.length≤sizeLine:=Nat.le_of_lt (big_ok (by lia))
  rw [← numL_eq] at q
  refine ⟨fun σ' H'=>H'=H∧σ'=[some (.str (figT z)),none]∧(Txt.startswith z "-" && decide (figT z="0"))=false,?_,?_⟩
  ·refine ⟨_,rfl,_,rfl,z,rfl,bz,rfl,_,rfl,?_⟩
   rw [slice1_minus]
   refine ifB (fun c=>?_) (fun c=>?_)
   ·have ef:figT z=Txt.slice z (some 1) none:=by unfold figT; rw [if_pos c]
    refine ⟨_,rfl,_,rfl,z,rfl,bz,?_⟩
    rw [← ef]
    refine ⟨_,rfl,rfl,_,rfl,ifD (fun c2=>?_) (fun c2=>?_)⟩
    ·refine qb q ?_
     unfold numL
     rw [c,decide_eq_true (V.str.inj c2)]
     rfl
    ·exact ⟨rfl,rfl,by rw [decide_eq_false (fun e=>c2 (congrArg V.str e)),Bool.and_false]⟩
   ·have ef:figT z=z:=by unfold figT; rw [if_neg (by rw [c]; exact Bool.false_ne_true)]
    exact ⟨rfl,by rw [ef]; rfl,by rw [c,Bool.false_and]⟩
  ·rintro σ' H' ⟨rfl,rfl,hb⟩
   have en:numL z=(madeOf (figT z) FIG 60 && (!Txt.startswith (figT z) "0" || decide (figT z="0"))):=by
    unfold numL
    rw [hb,if_neg Bool.false_ne_true]
   have hfl:(figT z).length≤z.length:=by
    unfold figT
    split
    ·exact Txt.slice_le z (some 1) none
    ·exact Nat.le_refl _
   rw [en] at q
   generalize figT z=y at hfl q
   have by_:y.length≤sizeLine:=Nat.le_of_lt (big_ok (by lia))
   refine ⟨_,rfl,y,rfl,for_text (fun i σ H1=>H1=H'∧(∀ d∈(sg y).take i,d∈sg FIG)∧∃ v,σ=[some (.str y),v]) ?_ ?_ ?_⟩
   ·exact ⟨rfl,(fun d hd=>by cases hd),none,rfl⟩
   ·rintro i c σ H1 hc ⟨rfl,hi,v,rfl⟩
    have hc':=sg_take_succ hc
    refine ⟨_,rfl,_,_,rfl,rfl,_,rfl,ifB (fun cc=>?_) (fun cc=>?_)⟩
    ·rw [in_one] at cc
     have hn:¬ c∈sg FIG:=fun z=>by rw [decide_eq_true z] at cc; cases cc
     refine qb q ?_
     rw [madeOf_no (List.mem_of_getElem? hc') hn,Bool.false_and]
    ·rw [in_one] at cc
     have hn:c∈sg FIG:=by simpa using cc
     exact ⟨rfl,take_in hc' hi hn,_,rfl⟩
   ·rintro σ H1 ⟨rfl,hi,v,rfl⟩
    have hall:∀ d∈sg y,d∈sg FIG:=fun d hd=>hi d (by rw [List.take_of_length_le (by show (sg y).length≤y.cps.size; rw [sg_len]; exact Nat.le_refl _)]; exact hd)
    have e:madeOf y FIG 60=(decide ((1:Int)≤y.length) && decide ((y.length:Int)≤60)):=madeOf_len hall
    rw [e] at q
    refine ⟨_,rfl,y,rfl,by_,_,_,rfl,rfl,_,rfl,ifD (fun c1=>?_) (fun c1=>?_)⟩
    ·refine ⟨_,_,rfl,rfl,_,rfl,ifD (fun c2=>?_) (fun c2=>?_)⟩
     ·rw [decide_eq_true (show (1:Int)≤y.length by lia),decide_eq_true (show (y.length:Int)≤60 by lia),Bool.true_and,Bool.true_and] at q
      obtain ⟨c0,hc0⟩:=sign_at (x:=y) (i:=0) (by decide) (by lia)
      have h0:(sg y).head?=some c0:=by
       cases qq:sg y with
       | nil =>
        have:=congrArg List.length qq
        rw [sg_len] at this
        exact absurd this (by simp; lia)
       | cons d r =>
        have:atI (sg y) 0=some c0:=hc0
        rw [qq,at0g] at this
        rw [List.head?_cons,this]
      have es:Txt.startswith y "0"=decide (c0=48):=by
       rw [sw_nought,h0]
       exact decide_eq_decide.mpr ⟨fun e=>Option.some.inj e,fun e=>congrArg some e⟩
      rw [es] at q
      refine ⟨_,rfl,_,_,c0,rfl,rfl,by_,hc0,rfl,_,rfl,ifNB (fun c3=>?_) (fun c3=>?_)⟩
      ·refine qb q ?_
       rw [decide_eq_false (fun e=>c3 (by rw [e]; rfl))]
       rfl
      ·have e48:c0=48:=by
        have:=congrArg sg (V.str.inj c3)
        have e2:[c0]=[48]:=this
        cases e2; rfl
       refine ⟨_,rfl,rfl,qb q ?_⟩
       rw [decide_eq_true e48]
       show decide (y="0")=decide (V.str y=V.str "0")
       exact decide_eq_decide.mpr ⟨fun e=>congrArg V.str e,fun e=>V.str.inj e⟩
     ·refine qb q ?_
      rw [decide_eq_false (show ¬ (y.length:Int)≤60 by lia),Bool.and_false,Bool.false_and]
    ·refine ⟨_,rfl,ifF rfl (qb q ?_)⟩
     rw [decide_eq_false (show ¬ (1:Int)≤y.length by lia),Bool.false_and,Bool.false_and]
theorem sc_Lparts:FnScope ["_law_text","_law_mark","_law_found","_law_start","_law_at"] ["_law_text","_law_mark"] (defScope s_Lparts):=⟨rfl,rfl,rfl,by decide +kernel,rfl,by decide +kernel,by decide +kernel⟩
theorem ok_Lparts {f:Addr} {fd:FuncData} (F:Fun K "_law_parts" "_law_parts" s_Lparts f fd) (T:Txt K mg) :FnOk P w K mg base CX0 1 f fd ["_law_text","_law_mark"] (sp_Lparts K):=by
 refine F.ok (k:=0) sc_Lparts (fun vs H Q E h=>?_) (fun cdv A outer s H vs Q E hr h=>?_)
 ·obtain ⟨z,y,rfl,_⟩:=h
  rfl
 ·obtain ⟨z,y,rfl,hz,y1,y3,hk,q⟩:=h
  refine ⟨_,(pss_cons (ps_set (i:=2) sc_Lparts.nd rfl (Or.inl rfl) (pe_lst pa_nil))
   (pss_cons (ps_set (i:=3) sc_Lparts.nd rfl (Or.inl rfl) pe_int)
   (pss_cons (ps_set (i:=4) sc_Lparts.nd rfl (Or.inl rfl) (pe_bm PySem.F.plainAttrs_str PySem.F.slot_str_find PySem.F.type_str_find mt_find (pv 0) (pa_cons (pv 1) pa_nil)))
   (pss_cons (ps_while PassesOwn.never (pt_cmpR op_ge (pv 4) pe_int (nomark _))
   (pss_cons (ps_expr (pe_bm PySem.F.plainAttrs_list PySem.F.slot_list_append PySem.F.type_list_append mt_append (pv 2) (pa_cons (pe_slice sl_str (pv 0) (po_some (pv 3)) (po_some (pv 4))) pa_nil)))
   (pss_cons (ps_set (i:=3) sc_Lparts.nd rfl (Or.inl rfl) (pe_op op_add (pv 4) (pe_callB call_len_str rfl T.n_len bt_len (pa_cons (pv 1) pa_nil))))
   (pss_one (ps_set (i:=4) sc_Lparts.nd rfl (Or.inl rfl) (pe_bm PySem.F.plainAttrs_str PySem.F.slot_str_find PySem.F.type_str_find mt_find (pv 0) (pa_cons (pv 1) (pa_cons (pv 3) pa_nil))))))))
   (pss_cons (ps_expr (pe_bm PySem.F.plainAttrs_list PySem.F.slot_list_append PySem.F.type_list_append mt_append (pv 2) (pa_cons (pe_slice sl_str (pv 0) (po_some (pv 3)) po_none) pa_nil)))
   (pss_one (ps_ret (pv 2)))))))),?_⟩
  have bz:z.length≤sizeLine:=Nat.le_of_lt (big_ok (by lia))
  have by_:y.length≤sizeLine:=Nat.le_of_lt (big_ok (by lia))
  obtain ⟨cuts,fE,hc,hn,hsp⟩:=split_cuts z y1 hk
  have hcount:=split_len z y
  rw [hsp] at q hcount
  refine ⟨by decide,fun f hf=>⟨_,rfl,rfl,_,rfl,z,y,rfl,.inl ⟨rfl,?_⟩⟩⟩
  rw [find_next y1 hc hn]
  refine ⟨fun m σ H'=>Ex_3_7 (fun (cs:List Nat) (a:Nat) (dn:List Str)=>m=cs.length) (fun cs a dn=>StrLaws.ChainG z y z.length a cs fE) (fun cs a dn=>a≤z.length) (fun cs a dn=>dn ++ StrLaws.partsFrom z y.length a cs=StrLaws.partsFrom z y.length 0 cuts) (fun cs a dn=>Same H H') (fun cs a dn=>H' f=some (.lst (dn.map V.str))) (fun cs a dn=>σ=[some (.str z),some (.str y),some (.ref f),some (.int a),some (.int (nextCut cs))]),⟨_,cuts,0,[],rfl,hc,Nat.zero_le _,rfl,Same.new hf,upd_same,rfl⟩,?_⟩
  rintro m σ H' ⟨cs,a,dn,rfl,hcs,ha,hdn,s1,hf1,rfl⟩
  have hdl:dn.length≤150002:=by
   have:=congrArg List.length hdn
   rw [List.length_append] at this
   lia
  cases cs with
  | nil =>
   refine ⟨_,rfl,_,_,rfl,rfl,_,rfl,ifDf (by show ¬ (0:Int)≤-1; decide) ?_⟩
   refine ⟨_,rfl,.inl ⟨rfl,_,SqL.of hf1⟩,_,rfl,_,rfl,_,rfl,z,rfl,bz,f,_,_,rfl,rfl,hf1,(by rw [List.length_map]; exact big_ok (by lia)),?_⟩
   refine ⟨_,rfl,q f _ (Same.at hf s1) hf ?_⟩
   rw [upd_same,← hdn,List.map_append,slice_tail z ha]
   rfl
  | cons c r =>
   obtain ⟨h1,h2,h3⟩:=chain_le hcs c r rfl
   refine ⟨_,rfl,_,_,rfl,rfl,_,rfl,ifDt (by show (0:Int)≤(c:Int); lia) ⟨_,fun σ' H2 hh=>⟨r.length,by simp,hh⟩,?_⟩⟩
   refine ⟨_,rfl,.inl ⟨rfl,_,SqL.of hf1⟩,_,rfl,_,rfl,_,rfl,_,rfl,_,rfl,z,rfl,bz,f,_,_,rfl,rfl,hf1,(by rw [List.length_map]; exact big_ok (by lia)),?_⟩
   refine ⟨_,rfl,_,rfl,y,rfl,by_,_,_,rfl,rfl,_,rfl,rfl,_,rfl,_,rfl,z,y,rfl,.inr ⟨_,rfl,?_⟩⟩
   have e:((nextCut (c :: r)) + (y.length:Int))=((c + y.length:Nat):Int):=by show (c:Int) + (y.length:Int)=_; lia
   rw [e,find3_next y1 h3 hn]
   refine ⟨r,c + y.length,dn ++ [Builtin.Str.strSub z a c],rfl,h3,h2,?_,Same.at hf s1,?_,rfl⟩
   ·rw [← hdn,List.append_assoc]; rfl
   ·rw [upd_same,List.map_append]
    show some (HO.lst (dn.map V.str ++ [V.str (Txt.slice z (some (a:Int)) (some (c:Int)))]))=_
    rw [slice_sub z h1 (by lia)]
    rfl
end
end Own
set_option Elab.async false
set_option linter.all false
set_option maxRecDepth 100000
set_option maxHeartbeats 1600000
namespace Own
open PySem L2
inductive Sp_Lisplain (K:PySem.W.Frag) (vs:List V) (H:Hp) (Q:VK) (E_:XK):Prop
 | mk (a:Addr) (ws:List Str) (h0_:vs=[.ref a]) (h1_:SqL K H a (ws.map V.str)) (h2_:(∀ w∈ws,w.length≤150000)) (h3_:∀ H',Same H H'→Q (.bl (plainL ws)) H'):Sp_Lisplain K vs H Q E_
noncomputable def sp_Lisplain (K:PySem.W.Frag):Sp:=Sp_Lisplain K
inductive Sp_Lisdeed (K:PySem.W.Frag) (vs:List V) (H:Hp) (Q:VK) (E_:XK):Prop
 | mk (z:Str) (h0_:vs=[.str z]) (h1_:z.length≤150000) (h2_:∀ H',Same H H'→Q (.bl (isDeedT z)) H'):Sp_Lisdeed K vs H Q E_
noncomputable def sp_Lisdeed (K:PySem.W.Frag):Sp:=Sp_Lisdeed K
theorem one_eq {K:PySem.W.Frag} {H:Hp} {a b:Addr} {ws:List Str} {u:Str} (ha:SqL K H a (ws.map V.str)) (hb:SqL K H b [V.str u]):DT K H a b (decide (ws=[u])):=by
 match ws,ha with
 | [],ha=>rw [decide_eq_false (fun e=>nomatch e)]; exact .len ha hb (by simp)
 | [w],ha =>
  have e:decide ([w]=[u])=(List.range ([w].map V.str).length).all (fun _=>eqV (.str w) (.str u)):=by
   show _=([0]:List Nat).all _
   rw [List.all_cons,List.all_nil,Bool.and_true]
   show _=decide (w=u)
   exact decide_eq_decide.mpr ⟨fun e=>by cases e; rfl,fun e=>by rw [e]⟩
  rw [e]
  refine .lst _ ha hb rfl fun i x y hx hy=>?_
  match i,hx,hy with
  | 0,hx,hy =>
   cases hx; cases hy
   exact .flat rfl rfl
  | i + 1,hx,hy=>simp at hx
 | w :: x :: r,ha=>rw [decide_eq_false (fun e=>nomatch e)]; exact .len ha hb (by simp)
noncomputable def plainM (ws:List Str):Bool:=match ws with
 | [w,x,y]=>if w="put" then isNam x && isNum y else if w="get" then isNam x && isNam y else false
 | [w,x,y,z]=>if w="swap" then isNam x && isNam y && isNum z else false
 | _=>false
theorem plain_else {ws:List Str} (c1:¬ ws=[("fence":Str)]) (c2:¬ ws=[("bar":Str)]):plainL ws=plainM ws:=by
 unfold plainL
 rw [if_neg (fun z=>z.elim c1 c2)]
 match ws with
 | []=>rfl
 | [_]=>rfl
 | [_,_]=>rfl
 | [_,_,_]=>rfl
 | [_,_,_,_]=>rfl
 | _ :: _ :: _ :: _ :: _ :: _=>rfl
theorem str_atN {S:List Str} {j:Nat} {z:Str} (h:S[j]?=some z):atI (S.map V.str) (j:Int)=some (.str z):=atI_nat (by rw [List.getElem?_map,h]; rfl)
section
variable {P:Program} {w:World} {K:PySem.W.Frag} {mg:Str→Option Value} {base:Heap}
theorem sc_Lisplain:FnScope ["_law_words"] ["_law_words"] (defScope s_Lisplain):=⟨rfl,rfl,rfl,by decide +kernel,rfl,by decide +kernel,by decide +kernel⟩
theorem ok_Lisplain {f:Addr} {fd:FuncData} (F:Fun K "_law_is_plain" "_law_is_plain" s_Lisplain f fd) (T:Txt K mg) (h_Lisname:Has P w K mg base 1 "_law_is_name" ["_law_word"] (sp_Lisname K)) (h_Lisnumber:Has P w K mg base 1 "_law_is_number" ["_law_word"] (sp_Lisnumber K)):FnOk P w K mg base CX0 2 f fd ["_law_words"] (sp_Lisplain K):=by
 refine F.ok (k:=1) sc_Lisplain (fun vs H Q E h=>?_) (fun cdv A outer s H vs Q E hr h=>?_)
 ·obtain ⟨a,ws,rfl,_⟩:=h
  rfl
 ·obtain ⟨a,ws,rfl,hL,hw,q⟩:=h
  have hu:=hu_of hr
  refine ⟨_,(pss_cons (ps_if (PW.pt (pw_or (pt_cmpR (op_eqC (hu_deep hr)) (pv 0) (pe_lst (pa_cons pe_str pa_nil)) (nomark _)) (pw_or1 (pt_cmpR (op_eqC (hu_deep hr)) (pv 0) (pe_lst (pa_cons pe_str pa_nil)) (nomark _)))))
   (pss_one (ps_ret pe_bl))
   pss_nil)
   (pss_cons (ps_if (PW.pt (pw_and (pt_cmpR op_eq (pe_callB call_len_seq rfl T.n_len bt_len (pa_cons (pv 0) pa_nil)) pe_int (nomark _)) (pw_and1 (pt_cmpR op_eq (pe_ix ix_list (pv 0) pe_int (fun _ _=>rfl)) pe_str (nomark _)))))
   (pss_one (ps_ret (pe_and (pe_fn h_Lisname (hr.mono (by decide)) (pa_cons (pe_ix ix_list (pv 0) pe_int (fun _ _=>rfl)) pa_nil)) (pe_one (pe_fn h_Lisnumber (hr.mono (by decide)) (pa_cons (pe_ix ix_list (pv 0) pe_int (fun _ _=>rfl)) pa_nil))))))
   pss_nil)
   (pss_cons (ps_if (PW.pt (pw_and (pt_cmpR op_eq (pe_callB call_len_seq rfl T.n_len bt_len (pa_cons (pv 0) pa_nil)) pe_int (nomark _)) (pw_and1 (pt_cmpR op_eq (pe_ix ix_list (pv 0) pe_int (fun _ _=>rfl)) pe_str (nomark _)))))
   (pss_one (ps_ret (pe_and (pe_fn h_Lisname (hr.mono (by decide)) (pa_cons (pe_ix ix_list (pv 0) pe_int (fun _ _=>rfl)) pa_nil)) (pe_one (pe_fn h_Lisname (hr.mono (by decide)) (pa_cons (pe_ix ix_list (pv 0) pe_int (fun _ _=>rfl)) pa_nil))))))
   pss_nil)
   (pss_cons (ps_if (PW.pt (pw_and (pt_cmpR op_eq (pe_callB call_len_seq rfl T.n_len bt_len (pa_cons (pv 0) pa_nil)) pe_int (nomark _)) (pw_and1 (pt_cmpR op_eq (pe_ix ix_list (pv 0) pe_int (fun _ _=>rfl)) pe_str (nomark _)))))
   (pss_one (ps_ret (pe_and (pe_fn h_Lisname (hr.mono (by decide)) (pa_cons (pe_ix ix_list (pv 0) pe_int (fun _ _=>rfl)) pa_nil)) (pe_and (pe_fn h_Lisname (hr.mono (by decide)) (pa_cons (pe_ix ix_list (pv 0) pe_int (fun _ _=>rfl)) pa_nil)) (pe_one (pe_fn h_Lisnumber (hr.mono (by decide)) (pa_cons (pe_ix ix_list (pv 0) pe_int (fun _ _=>rfl)) pa_nil)))))))
   pss_nil)
   (pss_one (ps_ret pe_bl)))))),?_⟩
  refine ⟨_,rfl,by decide,fun l1 h1=>⟨a,l1,_,rfl,rfl,one_eq ((Same.new h1).seq hL) SqL.new,_,rfl,ifD (fun c1=>?_) (fun c1=>?_)⟩⟩
  ·refine ifT rfl (qb (q _ (Same.new h1)) ?_)
   unfold plainL; rw [if_pos (.inl c1)]
  have s1:Same H (upd H l1 (.lst [V.str "fence"])):=Same.new h1
  refine ⟨_,rfl,by decide,fun l2 h2=>⟨a,l2,_,rfl,rfl,one_eq ((s1.then h2).seq hL) SqL.new,_,rfl,ifD (fun c2=>?_) (fun c2=>?_)⟩⟩
  ·refine qb (q _ (s1.then h2)) ?_
   unfold plainL; rw [if_pos (.inr c2)]
  have s2:Same H (upd (upd H l1 (.lst [V.str "fence"])) l2 (.lst [V.str "bar"])):=s1.then h2
  generalize upd (upd H l1 (.lst [V.str "fence"])) l2 (.lst [V.str "bar"])=H2 at s2
  have hL2:=s2.seq hL
  have q2:=q H2 s2
  rw [plain_else c1 c2] at q2
  clear c1 c2 q hL
  match ws,hw,hL2,q2 with
  | [],_,hL2,q2 =>
   exact ⟨_,rfl,a,_,rfl,.inl hL2,rfl,_,rfl,iteF (iteF ⟨_,rfl,a,_,rfl,.inl hL2,rfl,_,rfl,iteF (iteF ⟨_,rfl,a,_,rfl,.inl hL2,rfl,_,rfl,iteF (iteF q2)⟩)⟩)⟩
  | [x0],_,hL2,q2 =>
   exact ⟨_,rfl,a,_,rfl,.inl hL2,rfl,_,rfl,iteF (iteF ⟨_,rfl,a,_,rfl,.inl hL2,rfl,_,rfl,iteF (iteF ⟨_,rfl,a,_,rfl,.inl hL2,rfl,_,rfl,iteF (iteF q2)⟩)⟩)⟩
  | [x0,x1],_,hL2,q2 =>
   exact ⟨_,rfl,a,_,rfl,.inl hL2,rfl,_,rfl,iteF (iteF ⟨_,rfl,a,_,rfl,.inl hL2,rfl,_,rfl,iteF (iteF ⟨_,rfl,a,_,rfl,.inl hL2,rfl,_,rfl,iteF (iteF q2)⟩)⟩)⟩
  | [x0,x1,x2],hw,hL2,q2 =>
   have g0:atI ([x0,x1,x2].map V.str) 0=some (.str x0):=str_atN (j:=0) rfl
   have g1:atI ([x0,x1,x2].map V.str) 1=some (.str x1):=str_atN (j:=1) rfl
   have g2:atI ([x0,x1,x2].map V.str) 2=some (.str x2):=str_atN (j:=2) rfl
   have w1:=hw x1 (by simp)
   have w2:=hw x2 (by simp)
   refine ⟨_,rfl,a,_,rfl,.inl hL2,rfl,_,rfl,iteT ⟨_,rfl,a,_,_,_,rfl,rfl,hL2,g0,rfl,_,rfl,ifD (fun c=>?_) (fun c=>?_)⟩⟩
   ·have c':=V.str.inj c
    refine ⟨_,rfl,a,_,_,_,rfl,rfl,hL2,g1,x1,rfl,w1,_,rfl,ifB (fun d=>?_) (fun d=>?_)⟩
    ·refine ⟨_,rfl,a,_,_,_,rfl,rfl,hL2,g2,x2,rfl,w2,qb q2 ?_⟩
     show (if x0="put" then isNam x1 && isNum x2 else _)=_
     rw [if_pos c',d,Bool.true_and]
    ·refine qb q2 ?_
     show (if x0="put" then isNam x1 && isNum x2 else _)=_
     rw [if_pos c',d,Bool.false_and]
   have c':¬ x0="put":=fun e=>c (congrArg V.str e)
   refine ⟨_,rfl,a,_,rfl,.inl hL2,rfl,_,rfl,iteT ⟨_,rfl,a,_,_,_,rfl,rfl,hL2,g0,rfl,_,rfl,ifD (fun c=>?_) (fun c=>?_)⟩⟩
   ·have c2:=V.str.inj c
    refine ⟨_,rfl,a,_,_,_,rfl,rfl,hL2,g1,x1,rfl,w1,_,rfl,ifB (fun d=>?_) (fun d=>?_)⟩
    ·refine ⟨_,rfl,a,_,_,_,rfl,rfl,hL2,g2,x2,rfl,w2,qb q2 ?_⟩
     show (if x0="put" then _ else if x0="get" then isNam x1 && isNam x2 else false)=_
     rw [if_neg c',if_pos c2,d,Bool.true_and]
    ·refine qb q2 ?_
     show (if x0="put" then _ else if x0="get" then isNam x1 && isNam x2 else false)=_
     rw [if_neg c',if_pos c2,d,Bool.false_and]
   have c2:¬ x0="get":=fun e=>c (congrArg V.str e)
   refine ⟨_,rfl,a,_,rfl,.inl hL2,rfl,_,rfl,iteF (iteF (qb q2 ?_))⟩
   show (if x0="put" then _ else if x0="get" then _ else false)=false
   rw [if_neg c',if_neg c2]
  | [x0,x1,x2,x3],hw,hL2,q2 =>
   have g0:atI ([x0,x1,x2,x3].map V.str) 0=some (.str x0):=str_atN (j:=0) rfl
   have g1:atI ([x0,x1,x2,x3].map V.str) 1=some (.str x1):=str_atN (j:=1) rfl
   have g2:atI ([x0,x1,x2,x3].map V.str) 2=some (.str x2):=str_atN (j:=2) rfl
   have g3:atI ([x0,x1,x2,x3].map V.str) 3=some (.str x3):=str_atN (j:=3) rfl
   have w1:=hw x1 (by simp)
   have w2:=hw x2 (by simp)
   have w3:=hw x3 (by simp)
   refine ⟨_,rfl,a,_,rfl,.inl hL2,rfl,_,rfl,iteF (iteF ⟨_,rfl,a,_,rfl,.inl hL2,rfl,_,rfl,iteF (iteF ⟨_,rfl,a,_,rfl,.inl hL2,rfl,_,rfl,iteT ⟨_,rfl,a,_,_,_,rfl,rfl,hL2,g0,rfl,_,rfl,ifD (fun c=>?_) (fun c=>?_)⟩⟩)⟩)⟩
   ·have c':=V.str.inj c
    refine ⟨_,rfl,a,_,_,_,rfl,rfl,hL2,g1,x1,rfl,w1,_,rfl,ifB (fun d=>?_) (fun d=>?_)⟩
    ·refine ⟨_,rfl,a,_,_,_,rfl,rfl,hL2,g2,x2,rfl,w2,_,rfl,ifB (fun d2=>?_) (fun d2=>?_)⟩
     ·refine ⟨_,rfl,a,_,_,_,rfl,rfl,hL2,g3,x3,rfl,w3,qb q2 ?_⟩
      show (if x0="swap" then isNam x1 && isNam x2 && isNum x3 else false)=_
      rw [if_pos c',d,d2]; rfl
     ·refine qb q2 ?_
      show (if x0="swap" then isNam x1 && isNam x2 && isNum x3 else false)=_
      rw [if_pos c',d,d2]; rfl
    ·refine qb q2 ?_
     show (if x0="swap" then isNam x1 && isNam x2 && isNum x3 else false)=_
     rw [if_pos c',d]; rfl
   ·refine qb q2 ?_
    show (if x0="swap" then isNam x1 && isNam x2 && isNum x3 else false)=_
    rw [if_neg (fun e=>c (congrArg V.str e))]
  | x0 :: x1 :: x2 :: x3 :: x4 :: r,_,hL2,q2 =>
   have n3:¬ ((x0 :: x1 :: x2 :: x3 :: x4 :: r).map V.str).length=3:=by simp
   have n4:¬ ((x0 :: x1 :: x2 :: x3 :: x4 :: r).map V.str).length=4:=by simp
   have z3:decide (V.int (((x0 :: x1 :: x2 :: x3 :: x4 :: r).map V.str).length:Int)=V.int 3)=false:=decide_eq_false fun e=>n3 (by have:=V.int.inj e; lia)
   have z4:decide (V.int (((x0 :: x1 :: x2 :: x3 :: x4 :: r).map V.str).length:Int)=V.int 4)=false:=decide_eq_false fun e=>n4 (by have:=V.int.inj e; lia)
   exact ⟨_,rfl,a,_,rfl,.inl hL2,rfl,_,rfl,ifF z3 (ifF rfl ⟨_,rfl,a,_,rfl,.inl hL2,rfl,_,rfl,ifF z3 (ifF rfl ⟨_,rfl,a,_,rfl,.inl hL2,rfl,_,rfl,ifF z4 (ifF rfl q2)⟩)⟩)⟩
end
end Own
set_option Elab.async false
set_option linter.all false
set_option maxRecDepth 100000
set_option maxHeartbeats 1600000
namespace Own
open PySem L2
noncomputable def dueOf (L:List Str):Str×Int:=match badAt L with
 | some k=>(("none":Str),(k:Int))
 | none=>if 6 < L.length∨40 < manyOf L then (("great":Str),0) else (("good":Str),0)
noncomputable def due (z:Str):Str×Int:=dueOf (Txt.split z " | ")
inductive Sp_Ljudged (K:PySem.W.Frag) (vs:List V) (H:Hp) (Q:VK) (E_:XK):Prop
 | mk (z:Str) (h0_:vs=[.str z]) (h1_:z.length≤150000) (h2_:∀ t H',Same H H'→H' t=some (.tup [.str (due z).1,.int (due z).2])→Q (.ref t) H'):Sp_Ljudged K vs H Q E_
noncomputable def sp_Ljudged (K:PySem.W.Frag):Sp:=Sp_Ljudged K
theorem due_bad {L:List Str} {k:Nat} (h:badAt L=some k):dueOf L=(("none":Str),(k:Int)):=by unfold dueOf; rw [h]
theorem due_great {L:List Str} (h:badAt L=none) (g:6 < L.length∨40 < manyOf L):dueOf L=(("great":Str),(0:Int)):=by unfold dueOf; rw [h]; exact if_pos g
theorem due_good {L:List Str} (h:badAt L=none) (g:¬ (6 < L.length∨40 < manyOf L)):dueOf L=(("good":Str),(0:Int)):=by unfold dueOf; rw [h]; exact if_neg g
theorem last_at (a:List Str) (v x n:Str):atI ((a ++ [v,x,n]).map V.str) (-3)=some (.str v)∧atI ((a ++ [v,x,n]).map V.str) (-2)=some (.str x)∧atI ((a ++ [v,x,n]).map V.str) (-1)=some (.str n):=by
 have hl:((a ++ [v,x,n]).map V.str).length=a.length + 3:=by rw [List.length_map,List.length_append]; rfl
 refine ⟨atI_neg (k:=3) (by decide) (by lia) ?_,atI_neg (k:=2) (by decide) (by lia) ?_,atI_neg (k:=1) (by decide) (by lia) ?_⟩
 ·rw [hl,show a.length + 3 - 3=a.length by lia,List.getElem?_map,List.getElem?_append_right (Nat.le_refl _),Nat.sub_self]; rfl
 ·rw [hl,show a.length + 3 - 2=a.length + 1 by lia,List.getElem?_map,List.getElem?_append_right (by lia),show a.length + 1 - a.length=1 by lia]; rfl
 ·rw [hl,show a.length + 3 - 1=a.length + 2 by lia,List.getElem?_map,List.getElem?_append_right (by lia),show a.length + 2 - a.length=2 by lia]; rfl
theorem cut_last3 (a:List Str) (v x n:Str):cutV ((a ++ [v,x,n]).map V.str) none (some (-3))=a.map V.str:=by
 have hl:((a ++ [v,x,n]).map V.str).length=a.length + 3:=by rw [List.length_map,List.length_append]; rfl
 have e:=cut_back ((a ++ [v,x,n]).map V.str) (k:=3) (by decide) (by lia)
 have e3:(-((3:Nat):Int))=-3:=rfl
 rw [e3] at e
 rw [e,hl,show a.length + 3 - 3=a.length by lia,List.map_append,← List.length_map (f:=V.str) (as:=a),List.take_left]
theorem deedL_snoc (a:List Str) (v x n:Str) (h:3 < (a ++ [v,x,n]).length):deedL (a ++ [v,x,n])=(((decide (v="when") || decide (v="unless")) && (isNam x && isNum n && plainL a)) || plainL (a ++ [v,x,n])):=by
 obtain ⟨e1,e2,e3,e4⟩:=deedL_at a v x n
 unfold deedL
 rw [decide_eq_true h,e1,e2,e3,e4,Bool.true_and]
theorem deedL_short {ws:List Str} (h:¬ 3 < ws.length):deedL ws=plainL ws:=by
 unfold deedL
 rw [decide_eq_false h,Bool.false_and,Bool.false_and,Bool.false_or]
theorem kind_sp:Builtin.Str.strKind (" ":Str)=1:=by decide +kernel
theorem kind_sc:Builtin.Str.strKind ("; ":Str)=1:=by decide +kernel
theorem kind_bl:Builtin.Str.strKind (" | ":Str)=1:=by decide +kernel
theorem rows_not {z:Str} (h:z≠"idle"):rowsOf z=(Txt.split z "; ").length:=by unfold rowsOf; rw [if_neg h]
theorem sum_take {L:List Str} {i:Nat} {u:Str} (h:L[i]?=some u):((L.take (i + 1)).map rowsOf).sum=((L.take i).map rowsOf).sum + rowsOf u:=by
 rw [List.take_add_one,h,List.map_append,List.sum_append]
 simp
section
variable {P:Program} {w:World} {K:PySem.W.Frag} {mg:Str→Option Value} {base:Heap}
theorem sc_Lisdeed:FnScope ["_law_row_here","_law_words"] ["_law_row_here"] (defScope s_Lisdeed):=⟨rfl,rfl,rfl,by decide +kernel,rfl,by decide +kernel,by decide +kernel⟩
theorem ok_Lisdeed {f:Addr} {fd:FuncData} (F:Fun K "_law_is_deed" "_law_is_deed" s_Lisdeed f fd) (T:Txt K mg) (h_Lparts:Has P w K mg base 1 "_law_parts" ["_law_text","_law_mark"] (sp_Lparts K)) (h_Lisplain:Has P w K mg base 2 "_law_is_plain" ["_law_words"] (sp_Lisplain K)) (h_Lisname:Has P w K mg base 1 "_law_is_name" ["_law_word"] (sp_Lisname K)) (h_Lisnumber:Has P w K mg base 1 "_law_is_number" ["_law_word"] (sp_Lisnumber K)):FnOk P w K mg base CX0 3 f fd ["_law_row_here"] (sp_Lisdeed K):=by
 refine F.ok (k:=2) sc_Lisdeed (fun vs H Q E h=>?_) (fun cdv A outer s H vs Q E hr h=>?_)
 ·obtain ⟨z,rfl,_⟩:=h
  rfl
 ·obtain ⟨z,rfl,hz,q⟩:=h
  refine ⟨_,(pss_cons (ps_set (i:=1) sc_Lisdeed.nd rfl (Or.inl rfl) (pe_fn h_Lparts (hr.mono (by decide)) (pa_cons (pv 0) (pa_cons pe_str pa_nil))))
   (pss_cut (ps_if (PW.pt (pw_and (pt_cmpR op_gt (pe_callB call_len_seq rfl T.n_len bt_len (pa_cons (pv 1) pa_nil)) pe_int (nomark _)) (pw_and1 (pt_cmpR op_in_seq (pe_ix ix_list (pv 1) (pe_un un_neg pe_int) (fun _ _=>rfl)) (pe_tup (pa_cons pe_str (pa_cons pe_str pa_nil))) (by with_unfolding_all rfl)))))
   (pss_one (ps_if (PW.pt (pw_and (pt_val (pe_fn h_Lisname (hr.mono (by decide)) (pa_cons (pe_ix ix_list (pv 1) (pe_un un_neg pe_int) (fun _ _=>rfl)) pa_nil))) (pw_and (pt_val (pe_fn h_Lisnumber (hr.mono (by decide)) (pa_cons (pe_ix ix_list (pv 1) (pe_un un_neg pe_int) (fun _ _=>rfl)) pa_nil))) (pw_and1 (pt_val (pe_fn h_Lisplain (hr.mono (by decide)) (pa_cons (pe_slice sl_list (pv 1) po_none (po_some (pe_un un_neg pe_int))) pa_nil)))))))
   (pss_one (ps_ret pe_bl))
   pss_nil))
   pss_nil)
   (pss_one (ps_ret (pe_fn h_Lisplain (hr.mono (by decide)) (pa_cons (pv 1) pa_nil)))))),?_⟩
  have hparts:=split_part z " "
  have hq:isDeedT z=deedL (Txt.split z " "):=by rw [isDeed_W,deedL_eq]
  rw [hq] at q
  refine ⟨_,rfl,z," ",rfl,hz,by decide +kernel,by decide +kernel,kind_sp,fun l H1 s1 _ hl=>?_⟩
  generalize Txt.split z " "=ws at hparts q hl
  have hw:∀ x∈ws,x.length≤150000:=fun x hx=>Nat.le_trans (hparts x hx) hz
  have hL:SqL K H1 l (ws.map V.str):=SqL.of hl
  refine ⟨fun σ' H'=>Same H1 H'∧σ'=[some (.str z),some (.ref l)]∧deedL ws=plainL ws,?_,?_⟩
  ·refine ⟨_,rfl,l,_,rfl,.inl hL,_,_,rfl,rfl,_,rfl,ifD (fun c3=>?_) (fun c3=>?_)⟩
   ·rw [List.length_map] at c3
    have h3:3 < ws.length:=by lia
    obtain ⟨a,v,x,n,rfl⟩:=last3 ws (by lia)
    obtain ⟨g3,g2,g1⟩:=last_at a v x n
    have ed:=deedL_snoc a v x n h3
    refine ⟨_,rfl,_,rfl,l,_,_,_,rfl,rfl,hL,g3,(by show 2≤sizeLine; decide),fun t ht=>⟨t,_,rfl,.inr SqT.new,rfl,rfl,_,rfl,ifB (fun c=>?_) (fun c=>?_)⟩⟩
    ·have cw:(decide (v="when") || decide (v="unless"))=true:=by rw [← inV_two]; exact c
     have s2:Same H1 (upd H1 t (.tup [V.str "when",.str "unless"])):=Same.new ht
     have hL2:=s2.seq hL
     generalize upd H1 t (.tup [V.str "when",.str "unless"])=H2 at s2 hL2
     refine ⟨_,rfl,_,rfl,l,_,_,_,rfl,rfl,hL2,g2,x,rfl,hw x (by simp),_,rfl,ifB (fun d1=>?_) (fun d1=>?_)⟩
     ·refine ⟨_,rfl,_,rfl,l,_,_,_,rfl,rfl,hL2,g1,n,rfl,hw n (by simp),_,rfl,ifB (fun d2=>?_) (fun d2=>?_)⟩
      ·refine ⟨_,rfl,_,rfl,_,rfl,l,_,rfl,hL2,fun p hp=>?_⟩
       rw [cut_last3]
       refine ⟨p,a,rfl,SqL.new,fun y hy=>hw y (List.mem_append_left _ hy),fun H3 s3=>⟨_,rfl,ifB (fun d3=>?_) (fun d3=>?_)⟩⟩
       ·refine qb (q _ (s1.trans (s2.trans ((Same.new hp).trans s3)))) ?_
        rw [ed,cw,d1,d2,d3]; rfl
       ·exact ⟨s2.trans ((Same.new hp).trans s3),rfl,by rw [ed,d3,Bool.and_false,Bool.and_false,Bool.false_or]⟩
      ·exact ifF rfl ⟨s2,rfl,by rw [ed,d2,Bool.and_false,Bool.false_and,Bool.and_false,Bool.false_or]⟩
     ·exact ifF rfl ⟨s2,rfl,by rw [ed,d1,Bool.false_and,Bool.false_and,Bool.and_false,Bool.false_or]⟩
    ·have cw:(decide (v="when") || decide (v="unless"))=false:=by rw [← inV_two]; exact c
     exact ⟨Same.new ht,rfl,by rw [ed,cw,Bool.false_and,Bool.false_or]⟩
   ·rw [List.length_map] at c3
    exact ifF rfl ⟨Same.refl _,rfl,deedL_short (by lia)⟩
  ·rintro σ' H2 ⟨s2,rfl,e⟩
   refine ⟨_,rfl,l,ws,rfl,s2.seq hL,hw,fun H3 s3=>?_⟩
   rw [← e]
   exact q _ (s1.trans (s2.trans s3))
theorem sc_Ljudged:FnScope ["_law_text","_law_hands_here","_law_many","_law_h","_law_row_here"] ["_law_text"] (defScope s_Ljudged):=⟨rfl,rfl,rfl,by decide +kernel,rfl,by decide +kernel,by decide +kernel⟩
theorem ok_Ljudged {f:Addr} {fd:FuncData} (F:Fun K "_law_judged" "_law_judged" s_Ljudged f fd) (T:Txt K mg) (h_Lparts:Has P w K mg base 1 "_law_parts" ["_law_text","_law_mark"] (sp_Lparts K)) (h_Lisdeed:Has P w K mg base 3 "_law_is_deed" ["_law_row_here"] (sp_Lisdeed K)):FnOk P w K mg base CX0 4 f fd ["_law_text"] (sp_Ljudged K):=by
 refine F.ok (k:=3) sc_Ljudged (fun vs H Q E h=>?_) (fun cdv A outer s H vs Q E hr h=>?_)
 ·obtain ⟨z,rfl,_⟩:=h
  rfl
 ·obtain ⟨z,rfl,hz,q⟩:=h
  refine ⟨_,(pss_cons (ps_set (i:=1) sc_Ljudged.nd rfl (Or.inl rfl) (pe_fn h_Lparts (hr.mono (by decide)) (pa_cons (pv 0) (pa_cons pe_str pa_nil))))
   (pss_cons (ps_set (i:=2) sc_Ljudged.nd rfl (Or.inl rfl) pe_int)
   (pss_cons (ps_for PassesOwn.never rfl (pi_range1 rfl T.n_range (pa_cons (pe_callB call_len_seq rfl T.n_len bt_len (pa_cons (pv 1) pa_nil)) pa_nil)) (pg_name (i:=3) sc_Ljudged.nd rfl (Or.inl rfl))
   (pss_one (ps_if (pt_cmpR op_ne (pe_ix ix_list (pv 1) (pv 3) (fun _ _=>rfl)) pe_str (nomark _))
   (pss_one (ps_for PassesOwn.never rfl (pi_list (pe_fn h_Lparts (hr.mono (by decide)) (pa_cons (pe_ix ix_list (pv 1) (pv 3) (fun _ _=>rfl)) (pa_cons pe_str pa_nil)))) (pg_name (i:=4) sc_Ljudged.nd rfl (Or.inl rfl))
   (pss_cons (ps_if (pt_not (pt_val (pe_fn h_Lisdeed (hr.mono (by decide)) (pa_cons (pv 4) pa_nil))))
   (pss_one (ps_ret (pe_tup (pa_cons pe_str (pa_cons (pv 3) pa_nil)))))
   pss_nil)
   (pss_one (ps_set (i:=2) sc_Ljudged.nd rfl (Or.inl rfl) (pe_op op_add (pv 2) pe_int))))))
   pss_nil)))
   (pss_cons (ps_if (PW.pt (pw_or (pt_cmpR op_gt (pe_callB call_len_seq rfl T.n_len bt_len (pa_cons (pv 1) pa_nil)) pe_int (nomark _)) (pw_or1 (pt_cmpR op_gt (pv 2) pe_int (nomark _)))))
   (pss_one (ps_ret (pe_tup (pa_cons pe_str (pa_cons pe_int pa_nil)))))
   pss_nil)
   (pss_one (ps_ret (pe_tup (pa_cons pe_str (pa_cons pe_int pa_nil))))))))),?_⟩
  have hparts:=split_part z " | "
  have hcount:=split_len z " | "
  have hdue:due z=dueOf (Txt.split z " | "):=rfl
  rw [hdue] at q
  refine ⟨_,rfl,z," | ",rfl,hz,by decide +kernel,by decide +kernel,kind_bl,fun l H1 s1 _ hl=>?_⟩
  generalize Txt.split z " | "=L at hparts hcount q hl
  have hL:SqL K H1 l (L.map V.str):=SqL.of hl
  have en:((L.map V.str).length:Int).toNat=L.length:=by rw [List.length_map]; lia
  refine ⟨_,rfl,l,_,rfl,.inl hL,_,rfl,by rw [List.length_map]; lia,by rw [List.length_map]; lia,for_range (n:=((L.map V.str).length:Int).toNat) (fun i σ H'=>Ex_2_3 (fun (v3 v4:Option V)=>Same H1 H') (fun v3 v4=>(∀ j,j < i→∀ y,L[j]?=some y→isHandT y=true)) (fun v3 v4=>σ=[some (.str z),some (.ref l),some (.int (((L.take i).map rowsOf).sum:Nat)),v3,v4])) ?_ ?_ ?_⟩
  ·exact ⟨none,none,Same.refl _,(fun j hj=>absurd hj (Nat.not_lt_zero _)),rfl⟩
  ·rintro i σ H2 hi ⟨v3,v4,s2,hj,rfl⟩
   rw [en] at hi
   have hu:L[i]?=some L[i]:=List.getElem?_eq_getElem hi
   generalize L[i]=u at hu
   have hul:=hparts u (List.mem_of_getElem? hu)
   have gi:atI (L.map V.str) (0 + (i:Int))=some (.str u):=by rw [Int.zero_add]; exact str_atN hu
   have more:isHandT u=true→∀ j,j < i + 1→∀ y,L[j]?=some y→isHandT y=true:=fun hh j hj' y hy=>by
    by_cases e:j < i
    ·exact hj j e y hy
    ·have ej:j=i:=by lia
     rw [ej,hu] at hy
     cases hy
     exact hh
   have hL2:=s2.seq hL
   refine ⟨_,rfl,_,rfl,l,_,_,_,rfl,rfl,hL2,gi,rfl,_,rfl,ifNB (fun c=>?_) (fun c=>?_)⟩
   ·have c':u≠"idle":=fun e=>c (congrArg V.str e)
    have hrp:=split_part u "; "
    have hrc:=split_len u "; "
    have hro:=rows_not c'
    have hha:isHandT u=(Txt.split u "; ").all isDeedT:=by unfold isHandT; rw [decide_eq_false c',Bool.false_or]
    refine ⟨_,rfl,_,rfl,l,_,_,_,rfl,rfl,hL2,gi,u,"; ",rfl,Nat.le_trans hul hz,by decide +kernel,by decide +kernel,kind_sc,fun l2 H3 s3 _ hl2=>?_⟩
    generalize Txt.split u "; "=R at hrp hrc hro hha hl2
    refine ⟨l2,rfl,⟨_,SqL.of hl2⟩,for_list (xs:=R.map V.str) (fun k σ H'=>∃ (v4:Option V),Same H3 H'∧(∀ r∈R.take k,isDeedT r=true)∧σ=[some (.str z),some (.ref l),some (.int ((((L.take i).map rowsOf).sum + k:Nat):Int)),some (.int (0 + (i:Int))),v4]) ?_ ?_ ?_ ?_⟩
    ·exact ⟨_,Same.refl _,(fun r hr=>by cases hr),rfl⟩
    ·rintro k σ H4 _ ⟨v4,s4,_⟩
     exact SqL.of (s4 _ _ hl2)
    ·rintro k y σ H4 hy ⟨v4,s4,hd,rfl⟩
     obtain ⟨r,hr,rfl⟩:=refs_get hy
     have hrl:=hrp r (List.mem_of_getElem? hr)
     refine ⟨_,rfl,r,rfl,by lia,fun H5 s5=>⟨_,rfl,ifB (fun c2=>?_) (fun c2=>?_)⟩⟩
     ·refine ⟨_,rfl,(by show 2≤sizeLine; decide),fun t ht=>q t _ (s1.trans (s2.trans (s3.trans (s4.trans (s5.then ht))))) ?_⟩
      have hb:badAt L=some i:=bad_at hu (by
       rw [hha]
       exact List.all_eq_false.mpr ⟨r,List.mem_of_getElem? hr,by simpa using c2⟩) hj
      rw [upd_same,due_bad hb]
      show some (HO.tup [V.str "none",.int (0 + (i:Int))])=some (HO.tup [V.str "none",.int (i:Int)])
      rw [Int.zero_add]
     ·refine ⟨_,rfl,_,_,rfl,rfl,some (.str r),s4.trans s5,fun r' hr'=>?_,rfl⟩
      rw [List.take_add_one,hr] at hr'
      rcases List.mem_append.mp hr' with hr' | hr'
      ·exact hd r' hr'
      ·rw [List.mem_singleton.mp hr']; simpa using c2
    ·rintro σ H4 ⟨v4,s4,hd,rfl⟩
     rw [List.length_map,List.take_of_length_le (Nat.le_refl _)] at hd
     refine ⟨some (.int (0 + (i:Int))),v4,s2.trans (s3.trans s4),more (by rw [hha]; exact List.all_eq_true.mpr hd),?_⟩
     rw [sum_take hu,hro,List.length_map]
   ·have c':u="idle":=V.str.inj c
    refine ⟨some (.int (0 + (i:Int))),v4,s2,more (by rw [c']; decide +kernel),?_⟩
    rw [sum_take hu,c',show rowsOf "idle"=0 from rfl,Nat.add_zero]
    rfl
  ·rintro σ H2 ⟨v3,v4,s2,hj,rfl⟩
   rw [en] at hj ⊢
   rw [List.take_of_length_le (Nat.le_refl _)]
   have hbad:=bad_no hj
   have hmany:((L.map rowsOf).sum:Nat)=manyOf L:=rfl
   rw [hmany]
   have hL2:=s2.seq hL
   have s12:=s1.trans s2
   have great:(6 < L.length∨40 < manyOf L)→∀ t,H2 t=none→Q (.ref t) (upd H2 t (.tup [.str "great",.int 0])):=fun g t ht=>q t _ (s12.then ht) (by rw [upd_same,due_great hbad g])
   refine ⟨_,rfl,l,_,rfl,.inl hL2,_,_,rfl,rfl,_,rfl,ifD (fun c6=>?_) (fun c6=>?_)⟩
   ·rw [List.length_map] at c6
    exact ifT rfl ⟨(by show 2≤sizeLine; decide),fun t ht=>great (.inl (by lia)) t ht⟩
   rw [List.length_map] at c6
   refine ⟨_,rfl,_,_,rfl,rfl,_,rfl,ifD (fun c40=>?_) (fun c40=>?_)⟩
   ·exact ⟨(by show 2≤sizeLine; decide),fun t ht=>great (.inr (by lia)) t ht⟩
   ·exact ⟨(by show 2≤sizeLine; decide),fun t ht=>q t _ (s12.then ht) (by rw [upd_same,due_good hbad (fun g=>by lia)])⟩
end
end Own
set_option Elab.async false
set_option linter.all false
set_option maxRecDepth 100000
set_option maxHeartbeats 1600000
namespace Own
open PySem L2
inductive Sp_Ltold (K:PySem.W.Frag) (vs:List V) (H:Hp) (Q:VK) (E_:XK):Prop
 | mk (z:Str) (h0_:vs=[.str z]) (h1_:z.length≤150000) (h2_:∀ t H',Same H H'→H' t=some (.tup [.str (due z).1,.int (due z).2])→Q (.ref t) H'):Sp_Ltold K vs H Q E_
noncomputable def sp_Ltold (K:PySem.W.Frag):Sp:=Sp_Ltold K
inductive Sp_Lcaught (K:PySem.W.Frag) (vs:List V) (H:Hp) (Q:VK) (E_:XK):Prop
 | mk (z:Str) (h0_:vs=[.str z]) (h1_:z.length≤150000) (h2_:∀ H',Same H H'→Q (.bl (!decide ((due z).1="good"))) H'):Sp_Lcaught K vs H Q E_
noncomputable def sp_Lcaught (K:PySem.W.Frag):Sp:=Sp_Lcaught K
inductive Sp_law (K:PySem.W.Frag) (vs:List V) (H:Hp) (Q:VK) (E_:XK):Prop
 | mk (a:Addr) (ns:List Int) (h0_:vs=[.ref a]) (h1_:SqL K H a (ns.map V.int)) (h2_:ns.length≤63) (h3_:∀ H',Q (.bl true) H'):Sp_law K vs H Q E_
noncomputable def sp_law (K:PySem.W.Frag):Sp:=Sp_law K
theorem not_good:¬ (("none":Str)="good")∧¬ (("great":Str)="good"):=by decide +kernel
section
variable {P:Program} {w:World} {K:PySem.W.Frag} {mg:Str→Option Value} {base:Heap}
theorem sc_Ltold:FnScope ["_law_text","_law_found","e"] ["_law_text"] (defScope s_Ltold):=⟨rfl,rfl,rfl,by decide +kernel,rfl,by decide +kernel,by decide +kernel⟩
theorem ok_Ltold {f:Addr} {fd:FuncData} (F:Fun K "_law_told" "_law_told" s_Ltold f fd) (T:Txt K mg) (x_read:HasD P w K mg base 7 "read" ["text"] (spx_read K)) (h_shown:Has P w K mg base 4 "shown" ["program"] (sp_shown K)):FnOk P w K mg base CX0 8 f fd ["_law_text"] (sp_Ltold K):=by
 refine F.ok (k:=7) sc_Ltold (fun vs H Q E h=>?_) (fun cdv A outer s H vs Q E hr h=>?_)
 ·obtain ⟨z,rfl,_⟩:=h
  rfl
 ·obtain ⟨z,rfl,hz,q⟩:=h
  refine ⟨_,(pss_cons (ps_tryA (i:=1) x_read (hr.mono (by decide)) (fun _ _ z=>z) rfl rfl sc_Ltold.nd rfl (Or.inl rfl) (pa_cons (pv 0) pa_nil)
   (ph_cons (ie:=2) sc_Ltold.nd rfl rfl T.x_NoText T.xa_NoText (fun pins a ob=>(pss_cons (ps_if (PW.pt (pw_or (pt_val (pe_callB is_hXT rfl T.n_isinstance bt_isinstance (pa_cons (pv 2) (pa_cons (pe_tup (pa_cons (pe_glob (v:=.ref (cA K "TooGreat")) rfl T.x_TooGreat rfl) (pa_cons (pe_glob (v:=.ref (cA K "NoMove")) rfl T.x_NoMove rfl) (pa_cons (pe_glob (v:=.ref (cA K "NoRow")) rfl T.x_NoRow rfl) (pa_cons (pe_glob (v:=.ref (cA K "NoRun")) rfl T.x_NoRun rfl) (pa_cons (pe_glob (v:=.ref (cA K "NoName")) rfl T.x_NoName rfl) pa_nil)))))) pa_nil)))) (pw_or1 (pt_val (pe_callB call_isBoolH rfl T.n_isinstance bt_isinstance (pa_cons (pe_hget (pv 2) rfl var_mono) (pa_cons (pe_bltn (v:=.ty "bool") rfl T.n_bool bt_bool rfl) pa_nil)))))))
   (pss_one (ps_ret (pe_tup (pa_cons pe_str (pa_cons pe_int pa_nil)))))
   pss_nil)
   (pss_cons (ps_if (PW.pt (pw_or (pt_not (pt_val (pe_callB call_isIntH rfl T.n_isinstance bt_isinstance (pa_cons (pe_hget (pv 2) rfl var_mono) (pa_cons (pe_bltn (v:=.ty "int") rfl T.n_int bt_int rfl) pa_nil))))) (pw_or (pt_not (pt_val (pe_callB is_hX rfl T.n_isinstance bt_isinstance (pa_cons (pv 2) (pa_cons (pe_glob (v:=.ref (cA K "LateError")) rfl T.x_LateError rfl) pa_nil))))) (pw_or1 (pt_not (pt_val (pe_callB is_hX rfl T.n_isinstance bt_isinstance (pa_cons (pv 2) (pa_cons (pe_bltn (v:=.ty "ValueError") rfl T.n_ValueError (by decide +kernel) rfl) pa_nil)))))))))
   (pss_one (ps_ret (pe_tup (pa_cons pe_str (pa_cons pe_int pa_nil)))))
   pss_nil)
   (pss_one (ps_ret (pe_tup (pa_cons pe_str (pa_cons (pe_hget (pv 2) rfl var_mono) pa_nil))))))))
   (ph_cons (ie:=2) sc_Ltold.nd rfl rfl T.x_TooGreat T.xa_TooGreat (fun pins a ob=>(pss_cons (ps_if (PW.pt (pw_or (pt_val (pe_callB is_hXT rfl T.n_isinstance bt_isinstance (pa_cons (pv 2) (pa_cons (pe_tup (pa_cons (pe_glob (v:=.ref (cA K "NoText")) rfl T.x_NoText rfl) (pa_cons (pe_glob (v:=.ref (cA K "NoMove")) rfl T.x_NoMove rfl) (pa_cons (pe_glob (v:=.ref (cA K "NoRow")) rfl T.x_NoRow rfl) (pa_cons (pe_glob (v:=.ref (cA K "NoRun")) rfl T.x_NoRun rfl) (pa_cons (pe_glob (v:=.ref (cA K "NoName")) rfl T.x_NoName rfl) pa_nil)))))) pa_nil)))) (pw_or1 (pt_not (pt_val (pe_callB is_hX rfl T.n_isinstance bt_isinstance (pa_cons (pv 2) (pa_cons (pe_glob (v:=.ref (cA K "LateError")) rfl T.x_LateError rfl) pa_nil))))))))
   (pss_one (ps_ret (pe_tup (pa_cons pe_str (pa_cons pe_int pa_nil)))))
   pss_nil)
   (pss_one (ps_ret (pe_tup (pa_cons pe_str (pa_cons pe_int pa_nil)))))))
   ph_nil)))
   (pss_cons (ps_if (pt_cmpR op_ne (pe_fn h_shown (hr.mono (by decide)) (pa_cons (pv 1) pa_nil)) (pv 0) (nomark _))
   (pss_one (ps_ret (pe_tup (pa_cons pe_str (pa_cons pe_int pa_nil)))))
   pss_nil)
   (pss_one (ps_ret (pe_tup (pa_cons pe_str (pa_cons pe_int pa_nil))))))),?_⟩
  have cN:=xcls_of T.xc_NoText
  have cT:=xcls_of T.xc_TooGreat
  have hdue:due z=dueOf (Txt.split z " | "):=rfl
  rw [hdue] at q
  refine ⟨_,rfl,z,rfl,hz,fun k hb dx H1 s1 hd a=>⟨true,T.sNN,ifT rfl fun ob h1 h2 h3=>?_⟩,fun hb hg H1 s1 a=>⟨false,T.sTN,ifF rfl ⟨true,T.sTT,ifT rfl fun ob h1 h2 h3=>?_⟩⟩,fun hb hg p ps H1 s1 hP hzt=>?_⟩
  ·have hx:IsXo K H1 ob (cA K "NoText") (some [("hand",.int k)]):=.d h1 h2 h3 hd cN
   refine ⟨_,rfl,(by show 5≤sizeLine; decide),fun tp htp=>⟨_,_,tp,[cA K "TooGreat",cA K "NoMove",cA K "NoRow",cA K "NoRun",cA K "NoName"],_,rfl,hx.same (Same.new htp),SqT.new,T.kN,_,rfl,iteF ?_⟩⟩
   have hx2:=hx.same (Same.new (o:=.tup [V.ref (cA K "TooGreat"),.ref (cA K "NoMove"),.ref (cA K "NoRow"),.ref (cA K "NoRun"),.ref (cA K "NoName")]) htp)
   have s2:=s1.then (o:=.tup [V.ref (cA K "TooGreat"),.ref (cA K "NoMove"),.ref (cA K "NoRow"),.ref (cA K "NoRun"),.ref (cA K "NoName")]) htp
   generalize upd H1 tp (.tup [V.ref (cA K "TooGreat"),.ref (cA K "NoMove"),.ref (cA K "NoRow"),.ref (cA K "NoRun"),.ref (cA K "NoName")])=H2 at hx2 s2
   refine ⟨_,rfl,_,_,_,rfl,hx2,T.na_hand,rfl,_,_,rfl,rfl,_,rfl,iteF ?_⟩
   refine ⟨_,rfl,_,_,_,rfl,hx2,T.na_hand,rfl,_,_,rfl,rfl,_,rfl,iteF ?_⟩
   refine ⟨_,rfl,_,_,_,_,_,rfl,hx2,(fun _ h=>h),T.kNL,_,rfl,iteF ?_⟩
   refine ⟨_,rfl,_,_,_,_,_,rfl,hx2,(fun _ h=>h),T.kNV,_,rfl,iteF ?_⟩
   refine ⟨_,rfl,_,_,_,rfl,hx2,T.na_hand,rfl,(by show 2≤sizeLine; decide),fun t ht=>q t _ (s2.then ht) ?_⟩
   rw [upd_same,due_bad hb]
  ·have hx:IsXo K H1 ob (cA K "TooGreat") none:=.n h1 h2 h3 cT
   refine ⟨_,rfl,(by show 5≤sizeLine; decide),fun tp htp=>⟨_,_,tp,[cA K "NoText",cA K "NoMove",cA K "NoRow",cA K "NoRun",cA K "NoName"],_,rfl,hx.same (Same.new htp),SqT.new,T.kT,_,rfl,iteF ?_⟩⟩
   refine ⟨_,rfl,_,_,_,_,_,rfl,hx.same (Same.new htp),(fun _ h=>h),T.kTL,_,rfl,iteF ?_⟩
   refine ⟨(by show 2≤sizeLine; decide),fun t ht=>q t _ ((s1.then htp).then ht) ?_⟩
   rw [upd_same,due_great hb hg]
  ·refine ⟨_,rfl,p,ps,rfl,hP,fun H2 s2=>?_⟩
   rw [hzt]
   refine ⟨_,rfl,rfl,_,rfl,ifNf rfl ⟨(by show 2≤sizeLine; decide),fun t ht=>q t _ ((s1.trans s2).then ht) ?_⟩⟩
   rw [upd_same,due_good hb hg]
theorem sc_Lcaught:FnScope ["_law_text","e"] ["_law_text"] (defScope s_Lcaught):=⟨rfl,rfl,rfl,by decide +kernel,rfl,by decide +kernel,by decide +kernel⟩
theorem ok_Lcaught {f:Addr} {fd:FuncData} (F:Fun K "_law_caught" "_law_caught" s_Lcaught f fd) (T:Txt K mg) (x_read:HasD P w K mg base 7 "read" ["text"] (spx_read K)):FnOk P w K mg base CX0 8 f fd ["_law_text"] (sp_Lcaught K):=by
 refine F.ok (k:=7) sc_Lcaught (fun vs H Q E h=>?_) (fun cdv A outer s H vs Q E hr h=>?_)
 ·obtain ⟨z,rfl,_⟩:=h
  rfl
 ·obtain ⟨z,rfl,hz,q⟩:=h
  refine ⟨_,(pss_cons (ps_tryE x_read (hr.mono (by decide)) (fun _ _ z=>z) rfl rfl (pa_cons (pv 0) pa_nil)
   (ph_cons (ie:=1) sc_Lcaught.nd rfl rfl T.x_LateError T.xa_LateError (fun pins a ob=>(pss_one (ps_ret (pe_callB is_hX rfl T.n_isinstance bt_isinstance (pa_cons (pv 1) (pa_cons (pe_bltn (v:=.ty "ValueError") rfl T.n_ValueError (by decide +kernel) rfl) pa_nil))))))
   ph_nil))
   (pss_one (ps_ret pe_bl))),?_⟩
  have cN:=xcls_of T.xc_NoText
  have cT:=xcls_of T.xc_TooGreat
  have hdue:due z=dueOf (Txt.split z " | "):=rfl
  rw [hdue] at q
  refine ⟨_,rfl,z,rfl,hz,fun k hb dx H1 s1 hd a=>⟨true,T.sNL,ifT rfl fun ob h1 h2 h3=>?_⟩,fun hb hg H1 s1 a=>⟨true,T.sTL,ifT rfl fun ob h1 h2 h3=>?_⟩,fun hb hg p ps H1 s1 hP hzt=>?_⟩
  ·have hx:IsXo K H1 ob (cA K "NoText") (some [("hand",.int k)]):=.d h1 h2 h3 hd cN
   refine ⟨_,rfl,_,_,_,_,_,rfl,hx,(fun _ h=>h),T.kNV,qb (q _ s1) ?_⟩
   rw [due_bad hb,decide_eq_false not_good.1]; rfl
  ·have hx:IsXo K H1 ob (cA K "TooGreat") none:=.n h1 h2 h3 cT
   refine ⟨_,rfl,_,_,_,_,_,rfl,hx,(fun _ h=>h),T.kTV,qb (q _ s1) ?_⟩
   rw [due_great hb hg,decide_eq_false not_good.2]; rfl
  ·refine qb (q _ s1) ?_
   rw [due_good hb hg,decide_eq_true rfl]; rfl
end
end Own
set_option Elab.async false
set_option linter.all false
set_option maxRecDepth 100000
set_option maxHeartbeats 1600000
namespace Own
open PySem L2
theorem dc_self {K:PySem.W.Frag} {H:Hp} {n:Nat} {x:V} (h:flatV x=true):DC K H n x x true:=by
 have:=DC.flat (K:=K) (H:=H) (n:=n) h h
 rw [eqV_self h] at this
 exact this
theorem dt_pair {K:PySem.W.Frag} {H:Hp} {a b:Addr} {s:Str} {n:Int} (ha:SqT K H a [.str s,.int n]) (hb:SqT K H b [.str s,.int n]):DT K H a b true:=by
 refine DT.tup (fun _=>true) ha hb fun i x y hx hy=>?_
 rw [hx] at hy
 cases hy
 match i,hx with
 | 0,hx=>cases hx; exact dc_self rfl
 | 1,hx=>cases hx; exact dc_self rfl
 | i + 2,hx=>simp at hx
section
variable {P:Program} {w:World} {K:PySem.W.Frag} {mg:Str→Option Value} {base:Heap}
theorem sc_law:FnScope ["_law_script","_law_hands_here","_law_text","_law_due","_law_made","_law_plain"] ["_law_script"] (defScope s_law):=⟨rfl,rfl,rfl,by decide +kernel,rfl,by decide +kernel,by decide +kernel⟩
theorem ok_law {f:Addr} {fd:FuncData} (F:Fun K "law" "law" s_law f fd) (T:Txt K mg) (h_Lhands:Has P w K mg base 3 "_law_hands" ["_law_script"] (sp_Lhands K)) (h_Lspoiled:Has P w K mg base 2 "_law_spoiled" ["_law_hands_here","_law_script"] (sp_Lspoiled K)) (h_Ljudged:Has P w K mg base 4 "_law_judged" ["_law_text"] (sp_Ljudged K)) (h_NoTextinit:HasE P w K mg base 1 "NoText" ["self","hand"] (sp_NoTextinit K)) (h_Ltold:Has P w K mg base 8 "_law_told" ["_law_text"] (sp_Ltold K)) (h_Lcaught:Has P w K mg base 8 "_law_caught" ["_law_text"] (sp_Lcaught K)) (h_Lcellat:Has P w K mg base 1 "_law_cell_at" ["_law_script","_law_k"] (sp_Lcellat K)):FnOk P w K mg base CX0 9 f fd ["_law_script"] (sp_law K):=by
 refine F.ok (k:=8) sc_law (fun vs H Q E h=>?_) (fun cdv A outer s H vs Q E hr h=>?_)
 ·obtain ⟨a,ns,rfl,_⟩:=h
  rfl
 ·obtain ⟨a,ns,rfl,hS,_,q⟩:=h
  refine ⟨_,(pss_cons (ps_set (i:=1) sc_law.nd rfl (Or.inl rfl) (pe_fn h_Lhands (hr.mono (by decide)) (pa_cons (pv 0) pa_nil)))
   (pss_cons (ps_set (i:=2) sc_law.nd rfl (Or.inl rfl) (pe_fn h_Lspoiled (hr.mono (by decide)) (pa_cons (pv 1) (pa_cons (pv 0) pa_nil))))
   (pss_cons (ps_set (i:=3) sc_law.nd rfl (Or.inl rfl) (pe_fn h_Ljudged (hr.mono (by decide)) (pa_cons (pv 2) pa_nil)))
   (pss_cons (ps_if (PW.pt (pw_or (pt_cmpR (op_neC (hu_deep hr)) (pe_fn h_Ltold (hr.mono (by decide)) (pa_cons (pv 2) pa_nil)) (pv 3) (nomark _)) (pw_or1 (pt_cmpR op_ne (pe_fn h_Lcaught (hr.mono (by decide)) (pa_cons (pv 2) pa_nil)) (pe_cmpR op_ne (pe_ix ix_tup (pv 3) pe_int (fun _ _=>rfl)) pe_str (nomark _)) (nomark _)))))
   (pss_one (ps_ret pe_bl))
   pss_nil)
   (pss_cons (ps_set (i:=4) sc_law.nd rfl (Or.inl rfl) (pe_mkx h_NoTextinit (hr.mono (by decide)) (pa_cons (pe_op op_mod (pe_fn h_Lcellat (hr.mono (by decide)) (pa_cons (pv 0) (pa_cons pe_int pa_nil))) (pe_op op_pow pe_int pe_int)) pa_nil)))
   (pss_cons (ps_if (PW.pt (pw_or (pt_cmpR op_ne (pe_xget (pv 4) rfl) (pe_op op_mod (pe_fn h_Lcellat (hr.mono (by decide)) (pa_cons (pv 0) (pa_cons pe_int pa_nil))) (pe_op op_pow pe_int pe_int)) (nomark _)) (pw_or1 (pt_not (pt_val (pe_callB call_isX rfl T.n_isinstance bt_isinstance (pa_cons (pv 4) (pa_cons (pe_glob (v:=.ref (cA K "LateError")) rfl T.x_LateError rfl) pa_nil))))))))
   (pss_one (ps_ret pe_bl))
   pss_nil)
   (pss_cons (ps_set (i:=5) sc_law.nd rfl (Or.inl rfl) (pe_bm PySem.F.plainAttrs_str PySem.F.slot_str_join PySem.F.type_str_join mt_join pe_str (pa_cons (pe_slice sl_list (pv 1) po_none (po_some pe_int)) pa_nil)))
   (pss_one (ps_ret (pe_and (pe_cmpR (op_eqC (hu_deep hr)) (pe_fn h_Ltold (hr.mono (by decide)) (pa_cons (pv 5) pa_nil)) (pe_fn h_Ljudged (hr.mono (by decide)) (pa_cons (pv 5) pa_nil)) (nomark _)) (pe_one (pe_cmpR (op_eqC (hu_deep hr)) (pe_fn h_Ltold (hr.mono (by decide)) (pa_cons (pv 2) pa_nil)) (pv 3) (nomark _))))))))))))),?_⟩
  have cN:=xcls_of T.xc_NoText
  refine ⟨_,rfl,a,ns,rfl,hS,fun l S H1 s1 _ hl S1 S8 Sx=>?_⟩
  have hS1:=s1.seq hS
  refine ⟨_,rfl,_,rfl,l,a,S,ns,rfl,SqL.of hl,hS1,S1,S8,Sx,fun z H2 s2 hz=>?_⟩
  refine ⟨_,rfl,z,rfl,hz,fun t1 H3 s3 ht1=>?_⟩
  have s13:=s2.trans s3
  refine ⟨_,rfl,z,rfl,hz,fun t2 H4 s4 ht2=>⟨_,rfl,t2,t1,_,rfl,rfl,dt_pair (SqT.of ht2) (SqT.of (s4 _ _ ht1)),_,rfl,iteF ?_⟩⟩
  refine ⟨_,rfl,z,rfl,hz,fun H5 s5=>⟨_,rfl,t1,_,_,_,rfl,rfl,SqT.of ((s4.trans s5) _ _ ht1),at0,rfl,rfl,_,rfl,ifNf ?_ ?_⟩⟩
  ·refine congrArg V.bl (congrArg (!·) (decide_eq_decide.mpr ⟨fun e=>congrArg V.str e,fun e=>V.str.inj e⟩))
  have s15:=s13.trans (s4.trans s5)
  have hS5:=s15.seq hS1
  refine ⟨_,rfl,a,ns,4,rfl,hS5,by decide,_,_,rfl,rfl,⟨by decide,by decide,by decide⟩,_,_,rfl,rfl,(by show (0:Int) < 10 ^ 9; decide),(by show 1≤sizeLine; decide),fun b tp nb=>⟨b,tp,_,rfl,upd_same,fun dx nd ne=>⟨rfl,?_⟩⟩⟩
  have nd5:H5 dx=none:=by rw [upd_ne ne] at nd; exact nd
  have key:∀ o:HO,Same H5 (upd (upd (upd H5 b (ExO b (excObj (.ref (cA K "NoText")) none tp))) dx o) b (ExO b (excObj (.ref (cA K "NoText")) (some dx) tp))):=fun o b' u e=>by
   have n1:=ne_of_none e nb
   rw [upd_ne n1,upd_ne (ne_of_none e nd5),upd_ne n1]; exact e
  have s6:=key (.xd [("hand",.int (ns.getD (4:Int).toNat 0 % 10 ^ (9:Int).toNat))])
  have hb6:upd (upd (upd H5 b (ExO b (excObj (.ref (cA K "NoText")) none tp))) dx (.xd [("hand",.int (ns.getD (4:Int).toNat 0 % 10 ^ (9:Int).toNat))])) b (ExO b (excObj (.ref (cA K "NoText")) (some dx) tp)) b=some (ExO b (excObj (.ref (cA K "NoText")) (some dx) tp)):=upd_same
  have hd6:upd (upd (upd H5 b (ExO b (excObj (.ref (cA K "NoText")) none tp))) dx (.xd [("hand",.int (ns.getD (4:Int).toNat 0 % 10 ^ (9:Int).toNat))])) b (ExO b (excObj (.ref (cA K "NoText")) (some dx) tp)) dx=some (.xd [("hand",.int (ns.getD (4:Int).toNat 0 % 10 ^ (9:Int).toNat))]):=by rw [upd_ne ne,upd_same]
  refine ⟨_,rfl,b,_,_,_,rfl,track_isx hb6 hd6 cN,T.na_hand,rfl,?_⟩
  refine ⟨_,rfl,a,ns,4,rfl,s6.seq hS5,by decide,_,_,rfl,rfl,⟨by decide,by decide,by decide⟩,_,_,rfl,rfl,(by show (0:Int) < 10 ^ 9; decide),rfl,_,rfl,ifNf rfl ?_⟩
  refine ⟨_,rfl,b,_,_,_,_,_,rfl,track_isx hb6 hd6 cN,(fun _ h=>h),T.kNL,_,rfl,iteF ?_⟩
  have hl6:=s6 _ _ (s15 _ _ hl)
  refine ⟨rfl,_,rfl,_,rfl,l,_,rfl,SqL.of hl6,fun p hp=>?_⟩
  have ec:cutV (S.map V.str) none (some 6)=(S.take 6).map V.str:=by
   have e:=cut_to (S.map V.str) 6
   rw [List.map_take]; exact e
  rw [ec]
  have hSt:∀ x∈S.take 6,x.length≤9000:=fun x hx=>Sx x (List.mem_of_mem_take hx)
  have hl8:(S.take 6).length≤6:=by rw [List.length_take]; lia
  refine ⟨" | ",p,S.take 6,rfl,rfl,SqL.new,?_,?_⟩
  ·exact joinOk_of (B:=9000) hSt (by show (S.take 6).length * 9000 + (S.take 6).length * 3≤16777216; lia)
  have hzp:(Str.join " | " (S.take 6)).length≤150000:=by
   have:=join_len (sep:=" | ") (B:=9000) hSt
   have e2:(" | ":Str).length=3:=by decide +kernel
   rw [e2] at this
   lia
  generalize Str.join " | " (S.take 6)=zp at hzp
  have s7:=s6.then (o:=.lst ((S.take 6).map V.str)) hp
  refine ⟨_,rfl,zp,rfl,hzp,fun t3 H8 s8 ht3=>⟨_,rfl,zp,rfl,hzp,fun t4 H9 s9 ht4=>⟨t3,t4,_,rfl,rfl,dt_pair (SqT.of (s9 _ _ ht3)) (SqT.of ht4),_,rfl,iteT ?_⟩⟩⟩
  refine ⟨_,rfl,z,rfl,hz,fun t5 H10 s10 ht5=>⟨_,rfl,t5,t1,_,rfl,rfl,dt_pair (SqT.of ht5) (SqT.of (((s4.trans s5).trans (s7.trans (s8.trans (s9.trans s10)))) _ _ ht1)),q _⟩⟩
end
end Own
--#hasof
--#zhead
--#pwx
--#shared 40
set_option Elab.async false
set_option linter.all false
set_option maxRecDepth 100000
set_option maxHeartbeats 4100000
namespace Own
open PySem L2
theorem len_1 {Pp:List Value→Prop} (h:∀ v0:Value,Pp [v0]) (us:List Value) (hl:us.length=1):Pp us:=by
 rcases us with _ | ⟨v0,_ | ⟨y,ys⟩⟩
 ·simp at hl
 ·exact h v0
 ·simp at hl
theorem len_2 {Pp:List Value→Prop} (h:∀ v0 v1:Value,Pp [v0,v1]) (us:List Value) (hl:us.length=2):Pp us:=by
 rcases us with _ | ⟨v0,_ | ⟨v1,_ | ⟨y,ys⟩⟩⟩
 ·simp at hl
 ·simp at hl
 ·exact h v0 v1
 ·simp at hl
theorem len_3 {Pp:List Value→Prop} (h:∀ v0 v1 v2:Value,Pp [v0,v1,v2]) (us:List Value) (hl:us.length=3):Pp us:=by
 rcases us with _ | ⟨v0,_ | ⟨v1,_ | ⟨v2,_ | ⟨y,ys⟩⟩⟩⟩
 ·simp at hl
 ·simp at hl
 ·simp at hl
 ·exact h v0 v1 v2
 ·simp at hl
theorem has_of {P:Program} {w:World} {K:PySem.W.Frag} {mg:Str→Option Value} {base h:Heap} {k:Nat} {x:Str} {st:Stmt} {f:Addr} {oc:Value} {od an:Option Addr} {osl:Array (Option Value)} {kV doc pm cdv ct:Value} {ps:List Str} {sp:Sp} (X:K.In h) (G:h.Ns mainGlobals mg)
  (a:PySem.W.nsIn K mainGlobals x=some (some (.ref f))) (l:K.lookup f=some ⟨oc,od,.func (PySem.W.fnOf x x (defArgs st) (defBody st) (defScope st) .none kV doc pm an cdv ct),osl⟩) (c:PySem.W.codeIn K cdv x=true) (kp:PySem.W.keepIn K (.ref f)=true)
  (hb:∀ (kV doc pm:Value) (an:Option Addr) (cdv ct:Value) (us:List Value),us.length=ps.length→bindArgs (PySem.W.fnOf x x (defArgs st) (defBody st) (defScope st) .none kV doc pm an cdv ct) ⟨us,[]⟩=pure (ps.zip us))
  (ok:∀ {f:Addr} {fd:FuncData},Fun K x x st f fd→FnOk P w K mg base CX0 k f fd ps sp):Has P w K mg base k x ps sp :=
 ⟨f,_,ok (fun_mk l c kp),PySem.W.mg_of X G a,kp,(fun_mk (st:=st) l c kp).binds hb⟩
theorem all_mk {l:PySem.W.OpenLaw} {w:World} {K:PySem.W.Frag} {h:Heap} {mg:Str→Option Value} {fa:Addr} (X:K.In h) (G:h.Ns mainGlobals mg) (hfa:mg "law"=some (.ref fa))
  {f0 f1 f2 f3 f4 f5 f6 f7 f8 f9 f10 f11 f12 f13 f14 f15 f16 f17 f18 f19 f20 f21 f22 f23 f24 f25 f26 f27 f28 f29 f30 f31 f32:Addr} {od0 an0 od1 an1 od2 an2 od3 an3 od4 an4 od5 an5 od6 an6 od7 an7 od8 an8 od9 an9 od10 an10 od11 an11 od12 an12 od13 an13 od14 an14 od15 an15 od16 an16 od17 an17 od18 an18 od19 an19 od20 an20 od21 an21 od22 an22 od23 an23 od24 an24 od25 an25 od26 an26 od27 an27 od28 an28 od29 an29 od30 an30 od31 an31 od32 an32:Option Addr} {sl0 sl1 sl2 sl3 sl4 sl5 sl6 sl7 sl8 sl9 sl10 sl11 sl12 sl13 sl14 sl15 sl16 sl17 sl18 sl19 sl20 sl21 sl22 sl23 sl24 sl25 sl26 sl27 sl28 sl29 sl30 sl31 sl32:Array (Option Value)} {oc0 kV0 dc0 pm0 cd0 ct0 oc1 kV1 dc1 pm1 cd1 ct1 oc2 kV2 dc2 pm2 cd2 ct2 oc3 kV3 dc3 pm3 cd3 ct3 oc4 kV4 dc4 pm4 cd4 ct4 oc5 kV5 dc5 pm5 cd5 ct5 oc6 kV6 dc6 pm6 cd6 ct6 oc7 kV7 dc7 pm7 cd7 ct7 oc8 kV8 dc8 pm8 cd8 ct8 oc9 kV9 dc9 pm9 cd9 ct9 oc10 kV10 dc10 pm10 cd10 ct10 oc11 kV11 dc11 pm11 cd11 ct11 oc12 kV12 dc12 pm12 cd12 ct12 oc13 kV13 dc13 pm13 cd13 ct13 oc14 kV14 dc14 pm14 cd14 ct14 oc15 kV15 dc15 pm15 cd15 ct15 oc16 kV16 dc16 pm16 cd16 ct16 oc17 kV17 dc17 pm17 cd17 ct17 oc18 kV18 dc18 pm18 cd18 ct18 oc19 kV19 dc19 pm19 cd19 ct19 oc20 kV20 dc20 pm20 cd20 ct20 oc21 kV21 dc21 pm21 cd21 ct21 oc22 kV22 dc22 pm22 cd22 ct22 oc23 kV23 dc23 pm23 cd23 ct23 oc24 kV24 dc24 pm24 cd24 ct24 oc25 kV25 dc25 pm25 cd25 ct25 oc26 kV26 dc26 pm26 cd26 ct26 oc27 kV27 dc27 pm27 cd27 ct27 oc28 kV28 dc28 pm28 cd28 ct28 oc29 kV29 dc29 pm29 cd29 ct29 oc30 kV30 dc30 pm30 cd30 ct30 oc31 kV31 dc31 pm31 cd31 ct31 oc32 kV32 dc32 pm32 cd32 ct32:Value}
  {X_NoText X_TooGreat X_NoMove X_NoRun X_NoRow X_NoName X_LateError:Addr}
  {t_FIGURES t_LETTERS t_MOST_DEEDS t_MOST_FIGURES t_MOST_HANDS t_MOST_LETTERS:Tok}
  {r_GUARD_SHAPE r_GUARD_WORDS r_SHAPES:Addr}
  (aX_NoText:PySem.W.nsIn K mainGlobals "NoText"=some (some (.ref X_NoText)))
  (xi_NoText:PySem.W.findIn K (.ref X_NoText) "__init__"=some (some (.ref f11)))
  (xa_NoText:excAny K X_NoText veB "ValueError.__new__" (some (.ref f11))=true)
  (xp_NoText:PySem.W.keepIn K (.ref X_NoText)=true)
  (xf_NoText:PySem.W.isFn K (.ref f11)=true)
  (aX_TooGreat:PySem.W.nsIn K mainGlobals "TooGreat"=some (some (.ref X_TooGreat)))
  (xa_TooGreat:excAny K X_TooGreat veB "ValueError.__new__" none=true)
  (xp_TooGreat:PySem.W.keepIn K (.ref X_TooGreat)=true)
  (aX_NoMove:PySem.W.nsIn K mainGlobals "NoMove"=some (some (.ref X_NoMove)))
  (xa_NoMove:excAny K X_NoMove veB "ValueError.__new__" none=true)
  (aX_NoRun:PySem.W.nsIn K mainGlobals "NoRun"=some (some (.ref X_NoRun)))
  (xa_NoRun:excAny K X_NoRun veB "ValueError.__new__" none=true)
  (aX_NoRow:PySem.W.nsIn K mainGlobals "NoRow"=some (some (.ref X_NoRow)))
  (xa_NoRow:excAny K X_NoRow veB "ValueError.__new__" none=true)
  (aX_NoName:PySem.W.nsIn K mainGlobals "NoName"=some (some (.ref X_NoName)))
  (xa_NoName:excAny K X_NoName veB "ValueError.__new__" none=true)
  (aX_LateError:PySem.W.nsIn K mainGlobals "LateError"=some (some (.ref X_LateError)))
  (xa_LateError:excAny K X_LateError veB "ValueError.__new__" none=true)
  (hf_xc_NoText:xclsIn K X_NoText=true)
  (hf_xc_TooGreat:xclsIn K X_TooGreat=true)
  (hf_na_hand:PySem.W.findIn K (.ref X_NoText) "hand"=some none)
  (hf_sNN:PySem.W.subIn K (.ref X_NoText) (.ref X_NoText)=some true)
  (hf_sTN:PySem.W.subIn K (.ref X_TooGreat) (.ref X_NoText)=some false)
  (hf_sTT:PySem.W.subIn K (.ref X_TooGreat) (.ref X_TooGreat)=some true)
  (hf_sNL:PySem.W.subIn K (.ref X_NoText) (.ref X_LateError)=some true)
  (hf_sTL:PySem.W.subIn K (.ref X_TooGreat) (.ref X_LateError)=some true)
  (hf_kN:PySem.W.kitAny K (.ref X_NoText) [.ref X_TooGreat,.ref X_NoMove,.ref X_NoRow,.ref X_NoRun,.ref X_NoName]=some false)
  (hf_kT:PySem.W.kitAny K (.ref X_TooGreat) [.ref X_NoText,.ref X_NoMove,.ref X_NoRow,.ref X_NoRun,.ref X_NoName]=some false)
  (hf_kNL:PySem.W.kitOne K (.ref X_NoText) (.ref X_LateError)=some true)
  (hf_kNV:PySem.W.kitOne K (.ref X_NoText) (.type "ValueError")=some true)
  (hf_kTL:PySem.W.kitOne K (.ref X_TooGreat) (.ref X_LateError)=some true)
  (hf_kTV:PySem.W.kitOne K (.ref X_TooGreat) (.type "ValueError")=some true)
  (a0:PySem.W.nsIn K mainGlobals "guard_of"=some (some (.ref f0))) (l0:K.lookup f0=some ⟨oc0,od0,.func (PySem.W.fnOf "guard_of" "guard_of" (defArgs s_guardof) (defBody s_guardof) (defScope s_guardof) .none kV0 dc0 pm0 an0 cd0 ct0),sl0⟩) (c0:PySem.W.codeIn K cd0 "guard_of"=true) (k0:PySem.W.keepIn K (.ref f0)=true)
  (a1:PySem.W.nsIn K mainGlobals "deed_size"=some (some (.ref f1))) (l1:K.lookup f1=some ⟨oc1,od1,.func (PySem.W.fnOf "deed_size" "deed_size" (defArgs s_deedsize) (defBody s_deedsize) (defScope s_deedsize) .none kV1 dc1 pm1 an1 cd1 ct1),sl1⟩) (c1:PySem.W.codeIn K cd1 "deed_size"=true) (k1:PySem.W.keepIn K (.ref f1)=true)
  (a2:PySem.W.nsIn K mainGlobals "made_of"=some (some (.ref f2))) (l2:K.lookup f2=some ⟨oc2,od2,.func (PySem.W.fnOf "made_of" "made_of" (defArgs s_madeof) (defBody s_madeof) (defScope s_madeof) .none kV2 dc2 pm2 an2 cd2 ct2),sl2⟩) (c2:PySem.W.codeIn K cd2 "made_of"=true) (k2:PySem.W.keepIn K (.ref f2)=true)
  (a3:PySem.W.nsIn K mainGlobals "is_number"=some (some (.ref f3))) (l3:K.lookup f3=some ⟨oc3,od3,.func (PySem.W.fnOf "is_number" "is_number" (defArgs s_isnumber) (defBody s_isnumber) (defScope s_isnumber) .none kV3 dc3 pm3 an3 cd3 ct3),sl3⟩) (c3:PySem.W.codeIn K cd3 "is_number"=true) (k3:PySem.W.keepIn K (.ref f3)=true)
  (a4:PySem.W.nsIn K mainGlobals "read_deed"=some (some (.ref f4))) (l4:K.lookup f4=some ⟨oc4,od4,.func (PySem.W.fnOf "read_deed" "read_deed" (defArgs s_readdeed) (defBody s_readdeed) (defScope s_readdeed) .none kV4 dc4 pm4 an4 cd4 ct4),sl4⟩) (c4:PySem.W.codeIn K cd4 "read_deed"=true) (k4:PySem.W.keepIn K (.ref f4)=true)
  (a5:PySem.W.nsIn K mainGlobals "read_hand"=some (some (.ref f5))) (l5:K.lookup f5=some ⟨oc5,od5,.func (PySem.W.fnOf "read_hand" "read_hand" (defArgs s_readhand) (defBody s_readhand) (defScope s_readhand) .none kV5 dc5 pm5 an5 cd5 ct5),sl5⟩) (c5:PySem.W.codeIn K cd5 "read_hand"=true) (k5:PySem.W.keepIn K (.ref f5)=true)
  (a6:PySem.W.nsIn K mainGlobals "is_name"=some (some (.ref f6))) (l6:K.lookup f6=some ⟨oc6,od6,.func (PySem.W.fnOf "is_name" "is_name" (defArgs s_isname) (defBody s_isname) (defScope s_isname) .none kV6 dc6 pm6 an6 cd6 ct6),sl6⟩) (c6:PySem.W.codeIn K cd6 "is_name"=true) (k6:PySem.W.keepIn K (.ref f6)=true)
  (a7:PySem.W.nsIn K mainGlobals "fits"=some (some (.ref f7))) (l7:K.lookup f7=some ⟨oc7,od7,.func (PySem.W.fnOf "fits" "fits" (defArgs s_fits) (defBody s_fits) (defScope s_fits) .none kV7 dc7 pm7 an7 cd7 ct7),sl7⟩) (c7:PySem.W.codeIn K cd7 "fits"=true) (k7:PySem.W.keepIn K (.ref f7)=true)
  (a8:PySem.W.nsIn K mainGlobals "is_guard"=some (some (.ref f8))) (l8:K.lookup f8=some ⟨oc8,od8,.func (PySem.W.fnOf "is_guard" "is_guard" (defArgs s_isguard) (defBody s_isguard) (defScope s_isguard) .none kV8 dc8 pm8 an8 cd8 ct8),sl8⟩) (c8:PySem.W.codeIn K cd8 "is_guard"=true) (k8:PySem.W.keepIn K (.ref f8)=true)
  (a9:PySem.W.nsIn K mainGlobals "is_deed"=some (some (.ref f9))) (l9:K.lookup f9=some ⟨oc9,od9,.func (PySem.W.fnOf "is_deed" "is_deed" (defArgs s_isdeed) (defBody s_isdeed) (defScope s_isdeed) .none kV9 dc9 pm9 an9 cd9 ct9),sl9⟩) (c9:PySem.W.codeIn K cd9 "is_deed"=true) (k9:PySem.W.keepIn K (.ref f9)=true)
  (a10:PySem.W.nsIn K mainGlobals "is_hand"=some (some (.ref f10))) (l10:K.lookup f10=some ⟨oc10,od10,.func (PySem.W.fnOf "is_hand" "is_hand" (defArgs s_ishand) (defBody s_ishand) (defScope s_ishand) .none kV10 dc10 pm10 an10 cd10 ct10),sl10⟩) (c10:PySem.W.codeIn K cd10 "is_hand"=true) (k10:PySem.W.keepIn K (.ref f10)=true)
  (l11:K.lookup f11=some ⟨oc11,od11,.func (PySem.W.fnOf "__init__" "NoText.__init__" (defArgs s_NoTextinit) (defBody s_NoTextinit) (defScope s_NoTextinit) .none kV11 dc11 pm11 an11 cd11 ct11),sl11⟩) (c11:PySem.W.codeIn K cd11 "NoText.__init__"=true) (k11:PySem.W.keepIn K (.ref f11)=true)
  (a12:PySem.W.nsIn K mainGlobals "read"=some (some (.ref f12))) (l12:K.lookup f12=some ⟨oc12,od12,.func (PySem.W.fnOf "read" "read" (defArgs s_read) (defBody s_read) (defScope s_read) .none kV12 dc12 pm12 an12 cd12 ct12),sl12⟩) (c12:PySem.W.codeIn K cd12 "read"=true) (k12:PySem.W.keepIn K (.ref f12)=true)
  (a13:PySem.W.nsIn K mainGlobals "show_deed"=some (some (.ref f13))) (l13:K.lookup f13=some ⟨oc13,od13,.func (PySem.W.fnOf "show_deed" "show_deed" (defArgs s_showdeed) (defBody s_showdeed) (defScope s_showdeed) .none kV13 dc13 pm13 an13 cd13 ct13),sl13⟩) (c13:PySem.W.codeIn K cd13 "show_deed"=true) (k13:PySem.W.keepIn K (.ref f13)=true)
  (a14:PySem.W.nsIn K mainGlobals "show_hand"=some (some (.ref f14))) (l14:K.lookup f14=some ⟨oc14,od14,.func (PySem.W.fnOf "show_hand" "show_hand" (defArgs s_showhand) (defBody s_showhand) (defScope s_showhand) .none kV14 dc14 pm14 an14 cd14 ct14),sl14⟩) (c14:PySem.W.codeIn K cd14 "show_hand"=true) (k14:PySem.W.keepIn K (.ref f14)=true)
  (a15:PySem.W.nsIn K mainGlobals "shown"=some (some (.ref f15))) (l15:K.lookup f15=some ⟨oc15,od15,.func (PySem.W.fnOf "shown" "shown" (defArgs s_shown) (defBody s_shown) (defScope s_shown) .none kV15 dc15 pm15 an15 cd15 ct15),sl15⟩) (c15:PySem.W.codeIn K cd15 "shown"=true) (k15:PySem.W.keepIn K (.ref f15)=true)
  (a16:PySem.W.nsIn K mainGlobals "_law_cell_at"=some (some (.ref f16))) (l16:K.lookup f16=some ⟨oc16,od16,.func (PySem.W.fnOf "_law_cell_at" "_law_cell_at" (defArgs s_Lcellat) (defBody s_Lcellat) (defScope s_Lcellat) .none kV16 dc16 pm16 an16 cd16 ct16),sl16⟩) (c16:PySem.W.codeIn K cd16 "_law_cell_at"=true) (k16:PySem.W.keepIn K (.ref f16)=true)
  (a17:PySem.W.nsIn K mainGlobals "_law_part"=some (some (.ref f17))) (l17:K.lookup f17=some ⟨oc17,od17,.func (PySem.W.fnOf "_law_part" "_law_part" (defArgs s_Lpart) (defBody s_Lpart) (defScope s_Lpart) .none kV17 dc17 pm17 an17 cd17 ct17),sl17⟩) (c17:PySem.W.codeIn K cd17 "_law_part"=true) (k17:PySem.W.keepIn K (.ref f17)=true)
  (a18:PySem.W.nsIn K mainGlobals "_law_name"=some (some (.ref f18))) (l18:K.lookup f18=some ⟨oc18,od18,.func (PySem.W.fnOf "_law_name" "_law_name" (defArgs s_Lname) (defBody s_Lname) (defScope s_Lname) .none kV18 dc18 pm18 an18 cd18 ct18),sl18⟩) (c18:PySem.W.codeIn K cd18 "_law_name"=true) (k18:PySem.W.keepIn K (.ref f18)=true)
  (a19:PySem.W.nsIn K mainGlobals "_law_number"=some (some (.ref f19))) (l19:K.lookup f19=some ⟨oc19,od19,.func (PySem.W.fnOf "_law_number" "_law_number" (defArgs s_Lnumber) (defBody s_Lnumber) (defScope s_Lnumber) .none kV19 dc19 pm19 an19 cd19 ct19),sl19⟩) (c19:PySem.W.codeIn K cd19 "_law_number"=true) (k19:PySem.W.keepIn K (.ref f19)=true)
  (a20:PySem.W.nsIn K mainGlobals "_law_row"=some (some (.ref f20))) (l20:K.lookup f20=some ⟨oc20,od20,.func (PySem.W.fnOf "_law_row" "_law_row" (defArgs s_Lrow) (defBody s_Lrow) (defScope s_Lrow) .none kV20 dc20 pm20 an20 cd20 ct20),sl20⟩) (c20:PySem.W.codeIn K cd20 "_law_row"=true) (k20:PySem.W.keepIn K (.ref f20)=true)
  (a21:PySem.W.nsIn K mainGlobals "_law_hands"=some (some (.ref f21))) (l21:K.lookup f21=some ⟨oc21,od21,.func (PySem.W.fnOf "_law_hands" "_law_hands" (defArgs s_Lhands) (defBody s_Lhands) (defScope s_Lhands) .none kV21 dc21 pm21 an21 cd21 ct21),sl21⟩) (c21:PySem.W.codeIn K cd21 "_law_hands"=true) (k21:PySem.W.keepIn K (.ref f21)=true)
  (a22:PySem.W.nsIn K mainGlobals "_law_odd"=some (some (.ref f22))) (l22:K.lookup f22=some ⟨oc22,od22,.func (PySem.W.fnOf "_law_odd" "_law_odd" (defArgs s_Lodd) (defBody s_Lodd) (defScope s_Lodd) .none kV22 dc22 pm22 an22 cd22 ct22),sl22⟩) (c22:PySem.W.codeIn K cd22 "_law_odd"=true) (k22:PySem.W.keepIn K (.ref f22)=true)
  (a23:PySem.W.nsIn K mainGlobals "_law_spoiled"=some (some (.ref f23))) (l23:K.lookup f23=some ⟨oc23,od23,.func (PySem.W.fnOf "_law_spoiled" "_law_spoiled" (defArgs s_Lspoiled) (defBody s_Lspoiled) (defScope s_Lspoiled) .none kV23 dc23 pm23 an23 cd23 ct23),sl23⟩) (c23:PySem.W.codeIn K cd23 "_law_spoiled"=true) (k23:PySem.W.keepIn K (.ref f23)=true)
  (a24:PySem.W.nsIn K mainGlobals "_law_is_name"=some (some (.ref f24))) (l24:K.lookup f24=some ⟨oc24,od24,.func (PySem.W.fnOf "_law_is_name" "_law_is_name" (defArgs s_Lisname) (defBody s_Lisname) (defScope s_Lisname) .none kV24 dc24 pm24 an24 cd24 ct24),sl24⟩) (c24:PySem.W.codeIn K cd24 "_law_is_name"=true) (k24:PySem.W.keepIn K (.ref f24)=true)
  (a25:PySem.W.nsIn K mainGlobals "_law_is_number"=some (some (.ref f25))) (l25:K.lookup f25=some ⟨oc25,od25,.func (PySem.W.fnOf "_law_is_number" "_law_is_number" (defArgs s_Lisnumber) (defBody s_Lisnumber) (defScope s_Lisnumber) .none kV25 dc25 pm25 an25 cd25 ct25),sl25⟩) (c25:PySem.W.codeIn K cd25 "_law_is_number"=true) (k25:PySem.W.keepIn K (.ref f25)=true)
  (a26:PySem.W.nsIn K mainGlobals "_law_parts"=some (some (.ref f26))) (l26:K.lookup f26=some ⟨oc26,od26,.func (PySem.W.fnOf "_law_parts" "_law_parts" (defArgs s_Lparts) (defBody s_Lparts) (defScope s_Lparts) .none kV26 dc26 pm26 an26 cd26 ct26),sl26⟩) (c26:PySem.W.codeIn K cd26 "_law_parts"=true) (k26:PySem.W.keepIn K (.ref f26)=true)
  (a27:PySem.W.nsIn K mainGlobals "_law_is_plain"=some (some (.ref f27))) (l27:K.lookup f27=some ⟨oc27,od27,.func (PySem.W.fnOf "_law_is_plain" "_law_is_plain" (defArgs s_Lisplain) (defBody s_Lisplain) (defScope s_Lisplain) .none kV27 dc27 pm27 an27 cd27 ct27),sl27⟩) (c27:PySem.W.codeIn K cd27 "_law_is_plain"=true) (k27:PySem.W.keepIn K (.ref f27)=true)
  (a28:PySem.W.nsIn K mainGlobals "_law_is_deed"=some (some (.ref f28))) (l28:K.lookup f28=some ⟨oc28,od28,.func (PySem.W.fnOf "_law_is_deed" "_law_is_deed" (defArgs s_Lisdeed) (defBody s_Lisdeed) (defScope s_Lisdeed) .none kV28 dc28 pm28 an28 cd28 ct28),sl28⟩) (c28:PySem.W.codeIn K cd28 "_law_is_deed"=true) (k28:PySem.W.keepIn K (.ref f28)=true)
  (a29:PySem.W.nsIn K mainGlobals "_law_judged"=some (some (.ref f29))) (l29:K.lookup f29=some ⟨oc29,od29,.func (PySem.W.fnOf "_law_judged" "_law_judged" (defArgs s_Ljudged) (defBody s_Ljudged) (defScope s_Ljudged) .none kV29 dc29 pm29 an29 cd29 ct29),sl29⟩) (c29:PySem.W.codeIn K cd29 "_law_judged"=true) (k29:PySem.W.keepIn K (.ref f29)=true)
  (a30:PySem.W.nsIn K mainGlobals "_law_told"=some (some (.ref f30))) (l30:K.lookup f30=some ⟨oc30,od30,.func (PySem.W.fnOf "_law_told" "_law_told" (defArgs s_Ltold) (defBody s_Ltold) (defScope s_Ltold) .none kV30 dc30 pm30 an30 cd30 ct30),sl30⟩) (c30:PySem.W.codeIn K cd30 "_law_told"=true) (k30:PySem.W.keepIn K (.ref f30)=true)
  (a31:PySem.W.nsIn K mainGlobals "_law_caught"=some (some (.ref f31))) (l31:K.lookup f31=some ⟨oc31,od31,.func (PySem.W.fnOf "_law_caught" "_law_caught" (defArgs s_Lcaught) (defBody s_Lcaught) (defScope s_Lcaught) .none kV31 dc31 pm31 an31 cd31 ct31),sl31⟩) (c31:PySem.W.codeIn K cd31 "_law_caught"=true) (k31:PySem.W.keepIn K (.ref f31)=true)
  (a32:PySem.W.nsIn K mainGlobals "law"=some (some (.ref f32))) (l32:K.lookup f32=some ⟨oc32,od32,.func (PySem.W.fnOf "law" "law" (defArgs s_law) (defBody s_law) (defScope s_law) .none kV32 dc32 pm32 an32 cd32 ct32),sl32⟩) (c32:PySem.W.codeIn K cd32 "law"=true) (k32:PySem.W.keepIn K (.ref f32)=true)
  (z_ValueError:PySem.W.nsIn K mainGlobals "ValueError"=some none) (z_all:PySem.W.nsIn K mainGlobals "all"=some none) (z_bool:PySem.W.nsIn K mainGlobals "bool"=some none) (z_enumerate:PySem.W.nsIn K mainGlobals "enumerate"=some none) (z_int:PySem.W.nsIn K mainGlobals "int"=some none) (z_isinstance:PySem.W.nsIn K mainGlobals "isinstance"=some none) (z_len:PySem.W.nsIn K mainGlobals "len"=some none) (z_list:PySem.W.nsIn K mainGlobals "list"=some none) (z_min:PySem.W.nsIn K mainGlobals "min"=some none) (z_range:PySem.W.nsIn K mainGlobals "range"=some none) (z_str:PySem.W.nsIn K mainGlobals "str"=some none) (z_sum:PySem.W.nsIn K mainGlobals "sum"=some none) (z_tuple:PySem.W.nsIn K mainGlobals "tuple"=some none) (z_zip:PySem.W.nsIn K mainGlobals "zip"=some none) (y_FIGURES:PySem.W.nsIn K mainGlobals "FIGURES"=some (some (.str "0123456789" t_FIGURES))) (y_LETTERS:PySem.W.nsIn K mainGlobals "LETTERS"=some (some (.str "abcdefghijklmnopqrstuvwxyz" t_LETTERS))) (y_MOST_DEEDS:PySem.W.nsIn K mainGlobals "MOST_DEEDS"=some (some (.int 40 t_MOST_DEEDS))) (y_MOST_FIGURES:PySem.W.nsIn K mainGlobals "MOST_FIGURES"=some (some (.int 60 t_MOST_FIGURES))) (y_MOST_HANDS:PySem.W.nsIn K mainGlobals "MOST_HANDS"=some (some (.int 6 t_MOST_HANDS))) (y_MOST_LETTERS:PySem.W.nsIn K mainGlobals "MOST_LETTERS"=some (some (.int 8 t_MOST_LETTERS))) (y_GUARD_SHAPE:PySem.W.nsIn K mainGlobals "GUARD_SHAPE"=some (some (.ref r_GUARD_SHAPE))) (w_GUARD_SHAPE:KTup K r_GUARD_SHAPE ["name","number"]) (y_GUARD_WORDS:PySem.W.nsIn K mainGlobals "GUARD_WORDS"=some (some (.ref r_GUARD_WORDS))) (w_GUARD_WORDS:KTup K r_GUARD_WORDS ["when","unless"]) (y_SHAPES:PySem.W.nsIn K mainGlobals "SHAPES"=some (some (.ref r_SHAPES))) (w_SHAPES:KTab K r_SHAPES [("put",["name","number"]),("get",["name","name"]),("swap",["name","name","number"]),("fence",[]),("bar",[])]) :
  ∃ fd:FuncData,(∀ (s:Shared) (v:Value),BindsTo s fd ⟨[v],[]⟩ [("_law_script",v)])∧∀ base:Heap,K.In base→base.Ns mainGlobals mg→FnOk l.prog w K mg base CX0 9 fa fd ["_law_script"] (sp_law K):=by
 have e:=hfa.symm.trans (PySem.W.mg_of X G a32)
 cases e
 have T:Txt K mg:=⟨PySem.W.mg_none_of X G z_ValueError,PySem.W.mg_none_of X G z_all,PySem.W.mg_none_of X G z_bool,PySem.W.mg_none_of X G z_enumerate,PySem.W.mg_none_of X G z_int,PySem.W.mg_none_of X G z_isinstance,PySem.W.mg_none_of X G z_len,PySem.W.mg_none_of X G z_list,PySem.W.mg_none_of X G z_min,PySem.W.mg_none_of X G z_range,PySem.W.mg_none_of X G z_str,PySem.W.mg_none_of X G z_sum,PySem.W.mg_none_of X G z_tuple,PySem.W.mg_none_of X G z_zip,⟨_,PySem.W.mg_of X G y_FIGURES,⟨_,rfl⟩⟩,⟨_,PySem.W.mg_of X G y_GUARD_SHAPE,w_GUARD_SHAPE⟩,⟨_,PySem.W.mg_of X G y_GUARD_WORDS,w_GUARD_WORDS⟩,⟨_,PySem.W.mg_of X G y_LETTERS,⟨_,rfl⟩⟩,⟨_,PySem.W.mg_of X G y_MOST_DEEDS,⟨_,rfl⟩⟩,⟨_,PySem.W.mg_of X G y_MOST_FIGURES,⟨_,rfl⟩⟩,⟨_,PySem.W.mg_of X G y_MOST_HANDS,⟨_,rfl⟩⟩,⟨_,PySem.W.mg_of X G y_MOST_LETTERS,⟨_,rfl⟩⟩,⟨_,PySem.W.mg_of X G y_SHAPES,w_SHAPES⟩,by rw [cA_of aX_NoText]; exact PySem.W.mg_of X G aX_NoText,by rw [cA_of aX_NoText]; exact ⟨_,xa_NoText⟩,by rw [cA_of aX_TooGreat]; exact PySem.W.mg_of X G aX_TooGreat,by rw [cA_of aX_TooGreat]; exact ⟨_,xa_TooGreat⟩,by rw [cA_of aX_NoMove]; exact PySem.W.mg_of X G aX_NoMove,by rw [cA_of aX_NoMove]; exact ⟨_,xa_NoMove⟩,by rw [cA_of aX_NoRun]; exact PySem.W.mg_of X G aX_NoRun,by rw [cA_of aX_NoRun]; exact ⟨_,xa_NoRun⟩,by rw [cA_of aX_NoRow]; exact PySem.W.mg_of X G aX_NoRow,by rw [cA_of aX_NoRow]; exact ⟨_,xa_NoRow⟩,by rw [cA_of aX_NoName]; exact PySem.W.mg_of X G aX_NoName,by rw [cA_of aX_NoName]; exact ⟨_,xa_NoName⟩,by rw [cA_of aX_LateError]; exact PySem.W.mg_of X G aX_LateError,by rw [cA_of aX_LateError]; exact ⟨_,xa_LateError⟩,by rw [cA_of aX_TooGreat]; exact xa_TooGreat,by rw [cA_of aX_TooGreat]; exact xp_TooGreat,by rw [cA_of aX_NoText]; exact hf_xc_NoText,by rw [cA_of aX_TooGreat]; exact hf_xc_TooGreat,by rw [cA_of aX_NoText]; exact hf_na_hand,by rw [cA_of aX_NoText]; exact hf_sNN,by rw [cA_of aX_TooGreat,cA_of aX_NoText]; exact hf_sTN,by rw [cA_of aX_TooGreat]; exact hf_sTT,by rw [cA_of aX_NoText,cA_of aX_LateError]; exact hf_sNL,by rw [cA_of aX_TooGreat,cA_of aX_LateError]; exact hf_sTL,by rw [cA_of aX_NoText,cA_of aX_TooGreat,cA_of aX_NoMove,cA_of aX_NoRow,cA_of aX_NoRun,cA_of aX_NoName]; exact hf_kN,by rw [cA_of aX_TooGreat,cA_of aX_NoText,cA_of aX_NoMove,cA_of aX_NoRow,cA_of aX_NoRun,cA_of aX_NoName]; exact hf_kT,by rw [cA_of aX_NoText,cA_of aX_LateError]; exact hf_kNL,by rw [cA_of aX_NoText]; exact hf_kNV,by rw [cA_of aX_TooGreat,cA_of aX_LateError]; exact hf_kTL,by rw [cA_of aX_TooGreat]; exact hf_kTV⟩
 have F11:=fun_mk (st:=s_NoTextinit) l11 c11 k11
 have b11:=F11.binds (ps:=["self","hand"]) fun _ _ _ _ _ _ us hl=>len_2 (Pp:=fun us=>bindArgs _ ⟨us,[]⟩=pure (List.zip _ us)) (fun _ _=>rfl) us hl
 have F12:=fun_mk (st:=s_read) l12 c12 k12
 have b12:=F12.binds (ps:=["text"]) fun _ _ _ _ _ _ us hl=>len_1 (Pp:=fun us=>bindArgs _ ⟨us,[]⟩=pure (List.zip _ us)) (fun _=>rfl) us hl
 have F32:=fun_mk (st:=s_law) l32 c32 k32
 have b32:=F32.binds (ps:=["_law_script"]) fun _ _ _ _ _ _ us hl=>len_1 (Pp:=fun us=>bindArgs _ ⟨us,[]⟩=pure (List.zip _ us)) (fun _=>rfl) us hl
 refine ⟨PySem.W.fnOf "law" "law" (defArgs s_law) (defBody s_law) (defScope s_law) .none kV32 dc32 pm32 an32 cd32 ct32,fun s v=>.of_eq rfl,fun base _ _=>?_⟩
 have h_guardof:Has l.prog w K mg base 1 "guard_of" ["deed"] (sp_guardof K):=has_of (st:=s_guardof) X G a0 l0 c0 k0 (fun _ _ _ _ _ _ us hl=>len_1 (Pp:=fun us=>bindArgs _ ⟨us,[]⟩=pure (List.zip _ us)) (fun _=>rfl) us hl) (fun F=>ok_guardof F T )
 have h_deedsize:Has l.prog w K mg base 1 "deed_size" ["words"] (sp_deedsize K):=has_of (st:=s_deedsize) X G a1 l1 c1 k1 (fun _ _ _ _ _ _ us hl=>len_1 (Pp:=fun us=>bindArgs _ ⟨us,[]⟩=pure (List.zip _ us)) (fun _=>rfl) us hl) (fun F=>ok_deedsize F T )
 have h_madeof:Has l.prog w K mg base 1 "made_of" ["word","signs","most"] (sp_madeof K):=has_of (st:=s_madeof) X G a2 l2 c2 k2 (fun _ _ _ _ _ _ us hl=>len_3 (Pp:=fun us=>bindArgs _ ⟨us,[]⟩=pure (List.zip _ us)) (fun _ _ _=>rfl) us hl) (fun F=>ok_madeof F T )
 have h_isnumber:Has l.prog w K mg base 2 "is_number" ["word"] (sp_isnumber K):=has_of (st:=s_isnumber) X G a3 l3 c3 k3 (fun _ _ _ _ _ _ us hl=>len_1 (Pp:=fun us=>bindArgs _ ⟨us,[]⟩=pure (List.zip _ us)) (fun _=>rfl) us hl) (fun F=>ok_isnumber F T h_madeof)
 have h_readdeed:Has l.prog w K mg base 3 "read_deed" ["text"] (sp_readdeed K):=has_of (st:=s_readdeed) X G a4 l4 c4 k4 (fun _ _ _ _ _ _ us hl=>len_1 (Pp:=fun us=>bindArgs _ ⟨us,[]⟩=pure (List.zip _ us)) (fun _=>rfl) us hl) (fun F=>ok_readdeed F T h_deedsize h_isnumber)
 have h_readhand:Has l.prog w K mg base 4 "read_hand" ["text"] (sp_readhand K):=has_of (st:=s_readhand) X G a5 l5 c5 k5 (fun _ _ _ _ _ _ us hl=>len_1 (Pp:=fun us=>bindArgs _ ⟨us,[]⟩=pure (List.zip _ us)) (fun _=>rfl) us hl) (fun F=>ok_readhand F T h_readdeed)
 have h_isname:Has l.prog w K mg base 2 "is_name" ["word"] (sp_isname K):=has_of (st:=s_isname) X G a6 l6 c6 k6 (fun _ _ _ _ _ _ us hl=>len_1 (Pp:=fun us=>bindArgs _ ⟨us,[]⟩=pure (List.zip _ us)) (fun _=>rfl) us hl) (fun F=>ok_isname F T h_madeof)
 have h_fits:Has l.prog w K mg base 3 "fits" ["words","shape"] (sp_fits K):=has_of (st:=s_fits) X G a7 l7 c7 k7 (fun _ _ _ _ _ _ us hl=>len_2 (Pp:=fun us=>bindArgs _ ⟨us,[]⟩=pure (List.zip _ us)) (fun _ _=>rfl) us hl) (fun F=>ok_fits F T h_isnumber h_isname)
 have h_isguard:Has l.prog w K mg base 4 "is_guard" ["words"] (sp_isguard K):=has_of (st:=s_isguard) X G a8 l8 c8 k8 (fun _ _ _ _ _ _ us hl=>len_1 (Pp:=fun us=>bindArgs _ ⟨us,[]⟩=pure (List.zip _ us)) (fun _=>rfl) us hl) (fun F=>ok_isguard F T h_fits)
 have h_isdeed:Has l.prog w K mg base 5 "is_deed" ["text"] (sp_isdeed K):=has_of (st:=s_isdeed) X G a9 l9 c9 k9 (fun _ _ _ _ _ _ us hl=>len_1 (Pp:=fun us=>bindArgs _ ⟨us,[]⟩=pure (List.zip _ us)) (fun _=>rfl) us hl) (fun F=>ok_isdeed F T h_deedsize h_fits h_isguard)
 have h_ishand:Has l.prog w K mg base 6 "is_hand" ["text"] (sp_ishand K):=has_of (st:=s_ishand) X G a10 l10 c10 k10 (fun _ _ _ _ _ _ us hl=>len_1 (Pp:=fun us=>bindArgs _ ⟨us,[]⟩=pure (List.zip _ us)) (fun _=>rfl) us hl) (fun F=>ok_ishand F T h_isdeed)
 have h_NoTextinit:HasE l.prog w K mg base 1 "NoText" ["self","hand"] (sp_NoTextinit K):=⟨_,_,ok_NoTextinit F11 T,T.x_NoText,(by rw [cA_of aX_NoText]; exact xa_NoText),xf_NoText,(by rw [cA_of aX_NoText]; exact xp_NoText),b11⟩
 have x_read:HasD l.prog w K mg base 7 "read" ["text"] (spx_read K):=⟨_,_,okx_read F12 T h_readhand h_ishand h_NoTextinit,PySem.W.mg_of X G a12,k12,b12⟩
 have h_showdeed:Has l.prog w K mg base 2 "show_deed" ["deed"] (sp_showdeed K):=has_of (st:=s_showdeed) X G a13 l13 c13 k13 (fun _ _ _ _ _ _ us hl=>len_1 (Pp:=fun us=>bindArgs _ ⟨us,[]⟩=pure (List.zip _ us)) (fun _=>rfl) us hl) (fun F=>ok_showdeed F T h_guardof)
 have h_showhand:Has l.prog w K mg base 3 "show_hand" ["hand"] (sp_showhand K):=has_of (st:=s_showhand) X G a14 l14 c14 k14 (fun _ _ _ _ _ _ us hl=>len_1 (Pp:=fun us=>bindArgs _ ⟨us,[]⟩=pure (List.zip _ us)) (fun _=>rfl) us hl) (fun F=>ok_showhand F T h_showdeed)
 have h_shown:Has l.prog w K mg base 4 "shown" ["program"] (sp_shown K):=has_of (st:=s_shown) X G a15 l15 c15 k15 (fun _ _ _ _ _ _ us hl=>len_1 (Pp:=fun us=>bindArgs _ ⟨us,[]⟩=pure (List.zip _ us)) (fun _=>rfl) us hl) (fun F=>ok_shown F T h_showhand)
 have h_Lcellat:Has l.prog w K mg base 1 "_law_cell_at" ["_law_script","_law_k"] (sp_Lcellat K):=has_of (st:=s_Lcellat) X G a16 l16 c16 k16 (fun _ _ _ _ _ _ us hl=>len_2 (Pp:=fun us=>bindArgs _ ⟨us,[]⟩=pure (List.zip _ us)) (fun _ _=>rfl) us hl) (fun F=>ok_Lcellat F T )
 have h_Lpart:Has l.prog w K mg base 1 "_law_part" ["_law_cell","_law_k","_law_many"] (sp_Lpart K):=has_of (st:=s_Lpart) X G a17 l17 c17 k17 (fun _ _ _ _ _ _ us hl=>len_3 (Pp:=fun us=>bindArgs _ ⟨us,[]⟩=pure (List.zip _ us)) (fun _ _ _=>rfl) us hl) (fun F=>ok_Lpart F T )
 have h_Lname:Has l.prog w K mg base 1 "_law_name" ["_law_cell"] (sp_Lname K):=has_of (st:=s_Lname) X G a18 l18 c18 k18 (fun _ _ _ _ _ _ us hl=>len_1 (Pp:=fun us=>bindArgs _ ⟨us,[]⟩=pure (List.zip _ us)) (fun _=>rfl) us hl) (fun F=>ok_Lname F T )
 have h_Lnumber:Has l.prog w K mg base 1 "_law_number" ["_law_cell"] (sp_Lnumber K):=has_of (st:=s_Lnumber) X G a19 l19 c19 k19 (fun _ _ _ _ _ _ us hl=>len_1 (Pp:=fun us=>bindArgs _ ⟨us,[]⟩=pure (List.zip _ us)) (fun _=>rfl) us hl) (fun F=>ok_Lnumber F T )
 have h_Lrow:Has l.prog w K mg base 2 "_law_row" ["_law_kind","_law_one","_law_other"] (sp_Lrow K):=has_of (st:=s_Lrow) X G a20 l20 c20 k20 (fun _ _ _ _ _ _ us hl=>len_3 (Pp:=fun us=>bindArgs _ ⟨us,[]⟩=pure (List.zip _ us)) (fun _ _ _=>rfl) us hl) (fun F=>ok_Lrow F T h_Lname h_Lnumber)
 have h_Lhands:Has l.prog w K mg base 3 "_law_hands" ["_law_script"] (sp_Lhands K):=has_of (st:=s_Lhands) X G a21 l21 c21 k21 (fun _ _ _ _ _ _ us hl=>len_1 (Pp:=fun us=>bindArgs _ ⟨us,[]⟩=pure (List.zip _ us)) (fun _=>rfl) us hl) (fun F=>ok_Lhands F T h_Lcellat h_Lpart h_Lrow)
 have h_Lodd:Has l.prog w K mg base 1 "_law_odd" ["_law_cell"] (sp_Lodd K):=has_of (st:=s_Lodd) X G a22 l22 c22 k22 (fun _ _ _ _ _ _ us hl=>len_1 (Pp:=fun us=>bindArgs _ ⟨us,[]⟩=pure (List.zip _ us)) (fun _=>rfl) us hl) (fun F=>ok_Lodd F T )
 have h_Lspoiled:Has l.prog w K mg base 2 "_law_spoiled" ["_law_hands_here","_law_script"] (sp_Lspoiled K):=has_of (st:=s_Lspoiled) X G a23 l23 c23 k23 (fun _ _ _ _ _ _ us hl=>len_2 (Pp:=fun us=>bindArgs _ ⟨us,[]⟩=pure (List.zip _ us)) (fun _ _=>rfl) us hl) (fun F=>ok_Lspoiled F T h_Lcellat h_Lodd)
 have h_Lisname:Has l.prog w K mg base 1 "_law_is_name" ["_law_word"] (sp_Lisname K):=has_of (st:=s_Lisname) X G a24 l24 c24 k24 (fun _ _ _ _ _ _ us hl=>len_1 (Pp:=fun us=>bindArgs _ ⟨us,[]⟩=pure (List.zip _ us)) (fun _=>rfl) us hl) (fun F=>ok_Lisname F T )
 have h_Lisnumber:Has l.prog w K mg base 1 "_law_is_number" ["_law_word"] (sp_Lisnumber K):=has_of (st:=s_Lisnumber) X G a25 l25 c25 k25 (fun _ _ _ _ _ _ us hl=>len_1 (Pp:=fun us=>bindArgs _ ⟨us,[]⟩=pure (List.zip _ us)) (fun _=>rfl) us hl) (fun F=>ok_Lisnumber F T )
 have h_Lparts:Has l.prog w K mg base 1 "_law_parts" ["_law_text","_law_mark"] (sp_Lparts K):=has_of (st:=s_Lparts) X G a26 l26 c26 k26 (fun _ _ _ _ _ _ us hl=>len_2 (Pp:=fun us=>bindArgs _ ⟨us,[]⟩=pure (List.zip _ us)) (fun _ _=>rfl) us hl) (fun F=>ok_Lparts F T )
 have h_Lisplain:Has l.prog w K mg base 2 "_law_is_plain" ["_law_words"] (sp_Lisplain K):=has_of (st:=s_Lisplain) X G a27 l27 c27 k27 (fun _ _ _ _ _ _ us hl=>len_1 (Pp:=fun us=>bindArgs _ ⟨us,[]⟩=pure (List.zip _ us)) (fun _=>rfl) us hl) (fun F=>ok_Lisplain F T h_Lisname h_Lisnumber)
 have h_Lisdeed:Has l.prog w K mg base 3 "_law_is_deed" ["_law_row_here"] (sp_Lisdeed K):=has_of (st:=s_Lisdeed) X G a28 l28 c28 k28 (fun _ _ _ _ _ _ us hl=>len_1 (Pp:=fun us=>bindArgs _ ⟨us,[]⟩=pure (List.zip _ us)) (fun _=>rfl) us hl) (fun F=>ok_Lisdeed F T h_Lparts h_Lisplain h_Lisname h_Lisnumber)
 have h_Ljudged:Has l.prog w K mg base 4 "_law_judged" ["_law_text"] (sp_Ljudged K):=has_of (st:=s_Ljudged) X G a29 l29 c29 k29 (fun _ _ _ _ _ _ us hl=>len_1 (Pp:=fun us=>bindArgs _ ⟨us,[]⟩=pure (List.zip _ us)) (fun _=>rfl) us hl) (fun F=>ok_Ljudged F T h_Lparts h_Lisdeed)
 have h_Ltold:Has l.prog w K mg base 8 "_law_told" ["_law_text"] (sp_Ltold K):=has_of (st:=s_Ltold) X G a30 l30 c30 k30 (fun _ _ _ _ _ _ us hl=>len_1 (Pp:=fun us=>bindArgs _ ⟨us,[]⟩=pure (List.zip _ us)) (fun _=>rfl) us hl) (fun F=>ok_Ltold F T x_read h_shown)
 have h_Lcaught:Has l.prog w K mg base 8 "_law_caught" ["_law_text"] (sp_Lcaught K):=has_of (st:=s_Lcaught) X G a31 l31 c31 k31 (fun _ _ _ _ _ _ us hl=>len_1 (Pp:=fun us=>bindArgs _ ⟨us,[]⟩=pure (List.zip _ us)) (fun _=>rfl) us hl) (fun F=>ok_Lcaught F T x_read)
 exact ok_law F32 T h_Lhands h_Lspoiled h_Ljudged h_NoTextinit h_Ltold h_Lcaught h_Lcellat
theorem walk {l:PySem.W.OpenLaw} {q:Program} {loose:List Str} {XP:(Str→Option Value)→Heap→Prop} {YP:World→Heap→Prop} {d:DefRec} {K:Params→PySem.W.Frag} (hn:l.most=some 63) (hdf:d.params.defaults=[])
  (hY:∀ (w:World) (h:Heap),YP w h→(K w.params).In h)
  (F:∀ (w:World) (mg:Str→Option Value) (fa:Addr) (h:Heap),(K w.params).In h→h.Ns mainGlobals mg→mg d.name=some (.ref fa) →
   ∃ fd:FuncData,(∀ (s:Shared) (u:Value),BindsTo s fd ⟨[u],[]⟩ [("_law_script",u)])∧∀ base:Heap,(K w.params).In base→base.Ns mainGlobals mg→FnOk l.prog w (K w.params) mg base CX0 9 fa fd ["_law_script"] (sp_law (K w.params))) :
  PySem.W.WalkO q loose XP YP l.row.toRowW d [] (fun f vs=>PySem.call f vs) :=
 L2.walk_of (n:=63) (k:=9) (x:="_law_script") (CX:=fun _=>CX0) (sp:=fun w=>sp_law (K w.params)) hn (by decide) hdf ⟨rfl,by decide,by decide⟩ hY F (fun _ _ a ns hl _ hS=>⟨a,ns,rfl,hS,hl,fun _=>rfl⟩) fun _ _ _ _ _ z=>z
def topX (i:Nat):Stmt:=PySem.Challenge.pw_latewrite_k05_texts_refused.main.body.getD i (.Pass ⟨0,0,0,0⟩)
def tX0:Stmt:=topX 0
def tX1:Stmt:=topX 1
def tX2:Stmt:=topX 2
def tX3:Stmt:=topX 3
def tX4:Stmt:=topX 4
def tX5:Stmt:=topX 5
def tX6:Stmt:=topX 6
def tX7:Stmt:=topX 7
def tX8:Stmt:=topX 8
def tX9:Stmt:=topX 9
def tX10:Stmt:=topX 10
def tX11:Stmt:=topX 11
def tX12:Stmt:=topX 12
def tX13:Stmt:=topX 13
def tX14:Stmt:=topX 14
def tX15:Stmt:=topX 15
def tX16:Stmt:=topX 16
def tX17:Stmt:=topX 17
def tX18:Stmt:=topX 18
def tX19:Stmt:=topX 19
def tX20:Stmt:=topX 20
def tX21:Stmt:=topX 21
def tX22:Stmt:=topX 22
def tX23:Stmt:=topX 23
def tX24:Stmt:=topX 24
def tX25:Stmt:=topX 25
def tX26:Stmt:=topX 26
def tX27:Stmt:=topX 27
def tX28:Stmt:=topX 28
def tX29:Stmt:=topX 29
def tX30:Stmt:=topX 30
def tX31:Stmt:=topX 31
def tX32:Stmt:=topX 32
def tX33:Stmt:=topX 33
def tX34:Stmt:=topX 34
def tX35:Stmt:=topX 35
def tX36:Stmt:=topX 36
def tX37:Stmt:=topX 37
def tX38:Stmt:=topX 38
def tX39:Stmt:=topX 39
def tX40:Stmt:=topX 40
def tX41:Stmt:=topX 41
def tX42:Stmt:=topX 42
def tX43:Stmt:=topX 43
def tX44:Stmt:=topX 44
def tX45:Stmt:=topX 45
def tX46:Stmt:=topX 46
def tX47:Stmt:=topX 47
def tX48:Stmt:=topX 48
def tX49:Stmt:=topX 49
def tX50:Stmt:=topX 50
def tX51:Stmt:=topX 51
def pw:Program:={ PySem.Challenge.pw_latewrite_k05_texts_refused with main:={ PySem.Challenge.pw_latewrite_k05_texts_refused.main with body:=[tX0,tX1,tX2,tX3,tX4,tX5,tX6,tX7,tX8,tX9,tX10,tX11,tX12,tX13,tX14,tX15,tX16,tX17,tX18,tX19,tX20,tX21,tX22,tX23,tX24,tX25,tX26,tX27,tX28,tX29,tX30,tX31,tX32,tX33,tX34,tX35,tX36,tX37,tX38,tX39,tX40,tX41,tX42,tX43,tX44,tX45,tX46,tX47,tX48,tX49,tX50,tX51] } }
def rw:PySem.W.OpenLaw:={ PySem.Challenge.rw_latewrite_k05_texts_refused with prog:=pw }
theorem rw_eq:PySem.Challenge.rw_latewrite_k05_texts_refused=Own.rw:=by rfl
open_shared sh for Own.pw leaving 40
end Own
open PySem PySem.W PyProof.Rows
set_option maxRecDepth 100000 in
set_option maxHeartbeats 0 in
theorem Own.main_holds:Own.rw.Holds:=by
 w_on; o_law; z_head; (case hw=>w_witness2)
 k_fill
 refine L2.walkX (fun _=>rfl) (Own.walk (l:=Own.rw) rfl rfl (fun w h Y=>Y) ?F)
 case F =>
  intro w mg fa h KX G hmg
  refine' Own.all_mk KX G hmg ?aX_NoText ?xi_NoText ?xa_NoText ?xp_NoText ?xf_NoText ?aX_TooGreat ?xa_TooGreat ?xp_TooGreat ?aX_NoMove ?xa_NoMove ?aX_NoRun ?xa_NoRun ?aX_NoRow ?xa_NoRow ?aX_NoName ?xa_NoName ?aX_LateError ?xa_LateError ?hf_xc_NoText ?hf_xc_TooGreat ?hf_na_hand ?hf_sNN ?hf_sTN ?hf_sTT ?hf_sNL ?hf_sTL ?hf_kN ?hf_kT ?hf_kNL ?hf_kNV ?hf_kTL ?hf_kTV ?a0 ?l0 ?c0 ?k0 ?a1 ?l1 ?c1 ?k1 ?a2 ?l2 ?c2 ?k2 ?a3 ?l3 ?c3 ?k3 ?a4 ?l4 ?c4 ?k4 ?a5 ?l5 ?c5 ?k5 ?a6 ?l6 ?c6 ?k6 ?a7 ?l7 ?c7 ?k7 ?a8 ?l8 ?c8 ?k8 ?a9 ?l9 ?c9 ?k9 ?a10 ?l10 ?c10 ?k10 ?l11 ?c11 ?k11 ?a12 ?l12 ?c12 ?k12 ?a13 ?l13 ?c13 ?k13 ?a14 ?l14 ?c14 ?k14 ?a15 ?l15 ?c15 ?k15 ?a16 ?l16 ?c16 ?k16 ?a17 ?l17 ?c17 ?k17 ?a18 ?l18 ?c18 ?k18 ?a19 ?l19 ?c19 ?k19 ?a20 ?l20 ?c20 ?k20 ?a21 ?l21 ?c21 ?k21 ?a22 ?l22 ?c22 ?k22 ?a23 ?l23 ?c23 ?k23 ?a24 ?l24 ?c24 ?k24 ?a25 ?l25 ?c25 ?k25 ?a26 ?l26 ?c26 ?k26 ?a27 ?l27 ?c27 ?k27 ?a28 ?l28 ?c28 ?k28 ?a29 ?l29 ?c29 ?k29 ?a30 ?l30 ?c30 ?k30 ?a31 ?l31 ?c31 ?k31 ?a32 ?l32 ?c32 ?k32 ?z_ValueError ?z_all ?z_bool ?z_enumerate ?z_int ?z_isinstance ?z_len ?z_list ?z_min ?z_range ?z_str ?z_sum ?z_tuple ?z_zip ?y_FIGURES ?y_LETTERS ?y_MOST_DEEDS ?y_MOST_FIGURES ?y_MOST_HANDS ?y_MOST_LETTERS ?y_GUARD_SHAPE ?w_GUARD_SHAPE ?y_GUARD_WORDS ?w_GUARD_WORDS ?y_SHAPES ?w_SHAPES
  (case aX_NoText=>k_is)
  (case xi_NoText=>k_is)
  (case xa_NoText=>(first | k_is | kit_is | kernel_rfl))
  (case xp_NoText=>k_is)
  (case xf_NoText=>k_is)
  (case aX_TooGreat=>k_is)
  (case xa_TooGreat=>(first | k_is | kit_is | kernel_rfl))
  (case xp_TooGreat=>k_is)
  (case aX_NoMove=>k_is)
  (case xa_NoMove=>(first | k_is | kit_is | kernel_rfl))
  (case aX_NoRun=>k_is)
  (case xa_NoRun=>(first | k_is | kit_is | kernel_rfl))
  (case aX_NoRow=>k_is)
  (case xa_NoRow=>(first | k_is | kit_is | kernel_rfl))
  (case aX_NoName=>k_is)
  (case xa_NoName=>(first | k_is | kit_is | kernel_rfl))
  (case aX_LateError=>k_is)
  (case xa_LateError=>(first | k_is | kit_is | kernel_rfl))
  (case hf_xc_NoText=>(first | k_is | kit_is | kernel_rfl))
  (case hf_xc_TooGreat=>(first | k_is | kit_is | kernel_rfl))
  (case hf_na_hand=>(first | k_is | kit_is | kernel_rfl))
  (case hf_sNN=>(first | k_is | kit_is | kernel_rfl))
  (case hf_sTN=>(first | k_is | kit_is | kernel_rfl))
  (case hf_sTT=>(first | k_is | kit_is | kernel_rfl))
  (case hf_sNL=>(first | k_is | kit_is | kernel_rfl))
  (case hf_sTL=>(first | k_is | kit_is | kernel_rfl))
  (case hf_kN=>(first | k_is | kit_is | kernel_rfl))
  (case hf_kT=>(first | k_is | kit_is | kernel_rfl))
  (case hf_kNL=>(first | k_is | kit_is | kernel_rfl))
  (case hf_kNV=>(first | k_is | kit_is | kernel_rfl))
  (case hf_kTL=>(first | k_is | kit_is | kernel_rfl))
  (case hf_kTV=>(first | k_is | kit_is | kernel_rfl))
  (case a0=>k_is)
  (case l0=>k_is)
  (case c0=>k_is)
  (case k0=>k_is)
  (case a1=>k_is)
  (case l1=>k_is)
  (case c1=>k_is)
  (case k1=>k_is)
  (case a2=>k_is)
  (case l2=>k_is)
  (case c2=>k_is)
  (case k2=>k_is)
  (case a3=>k_is)
  (case l3=>k_is)
  (case c3=>k_is)
  (case k3=>k_is)
  (case a4=>k_is)
  (case l4=>k_is)
  (case c4=>k_is)
  (case k4=>k_is)
  (case a5=>k_is)
  (case l5=>k_is)
  (case c5=>k_is)
  (case k5=>k_is)
  (case a6=>k_is)
  (case l6=>k_is)
  (case c6=>k_is)
  (case k6=>k_is)
  (case a7=>k_is)
  (case l7=>k_is)
  (case c7=>k_is)
  (case k7=>k_is)
  (case a8=>k_is)
  (case l8=>k_is)
  (case c8=>k_is)
  (case k8=>k_is)
  (case a9=>k_is)
  (case l9=>k_is)
  (case c9=>k_is)
  (case k9=>k_is)
  (case a10=>k_is)
  (case l10=>k_is)
  (case c10=>k_is)
  (case k10=>k_is)
  (case l11=>k_is)
  (case c11=>k_is)
  (case k11=>k_is)
  (case a12=>k_is)
  (case l12=>k_is)
  (case c12=>k_is)
  (case k12=>k_is)
  (case a13=>k_is)
  (case l13=>k_is)
  (case c13=>k_is)
  (case k13=>k_is)
  (case a14=>k_is)
  (case l14=>k_is)
  (case c14=>k_is)
  (case k14=>k_is)
  (case a15=>k_is)
  (case l15=>k_is)
  (case c15=>k_is)
  (case k15=>k_is)
  (case a16=>k_is)
  (case l16=>k_is)
  (case c16=>k_is)
  (case k16=>k_is)
  (case a17=>k_is)
  (case l17=>k_is)
  (case c17=>k_is)
  (case k17=>k_is)
  (case a18=>k_is)
  (case l18=>k_is)
  (case c18=>k_is)
  (case k18=>k_is)
  (case a19=>k_is)
  (case l19=>k_is)
  (case c19=>k_is)
  (case k19=>k_is)
  (case a20=>k_is)
  (case l20=>k_is)
  (case c20=>k_is)
  (case k20=>k_is)
  (case a21=>k_is)
  (case l21=>k_is)
  (case c21=>k_is)
  (case k21=>k_is)
  (case a22=>k_is)
  (case l22=>k_is)
  (case c22=>k_is)
  (case k22=>k_is)
  (case a23=>k_is)
  (case l23=>k_is)
  (case c23=>k_is)
  (case k23=>k_is)
  (case a24=>k_is)
  (case l24=>k_is)
  (case c24=>k_is)
  (case k24=>k_is)
  (case a25=>k_is)
  (case l25=>k_is)
  (case c25=>k_is)
  (case k25=>k_is)
  (case a26=>k_is)
  (case l26=>k_is)
  (case c26=>k_is)
  (case k26=>k_is)
  (case a27=>k_is)
  (case l27=>k_is)
  (case c27=>k_is)
  (case k27=>k_is)
  (case a28=>k_is)
  (case l28=>k_is)
  (case c28=>k_is)
  (case k28=>k_is)
  (case a29=>k_is)
  (case l29=>k_is)
  (case c29=>k_is)
  (case k29=>k_is)
  (case a30=>k_is)
  (case l30=>k_is)
  (case c30=>k_is)
  (case k30=>k_is)
  (case a31=>k_is)
  (case l31=>k_is)
  (case c31=>k_is)
  (case k31=>k_is)
  (case a32=>k_is)
  (case l32=>k_is)
  (case c32=>k_is)
  (case k32=>k_is)
  (case z_ValueError=>k_is)
  (case z_all=>k_is)
  (case z_bool=>k_is)
  (case z_enumerate=>k_is)
  (case z_int=>k_is)
  (case z_isinstance=>k_is)
  (case z_len=>k_is)
  (case z_list=>k_is)
  (case z_min=>k_is)
  (case z_range=>k_is)
  (case z_str=>k_is)
  (case z_sum=>k_is)
  (case z_tuple=>k_is)
  (case z_zip=>k_is)
  (case y_FIGURES=>k_is)
  (case y_LETTERS=>k_is)
  (case y_MOST_DEEDS=>k_is)
  (case y_MOST_FIGURES=>k_is)
  (case y_MOST_HANDS=>k_is)
  (case y_MOST_LETTERS=>k_is)
  (case y_GUARD_SHAPE=>k_is)
  (case w_GUARD_SHAPE=>(first | (unfold L2.KTup; kernel_rfl) | (unfold L2.KTab; kernel_rfl)))
  (case y_GUARD_WORDS=>k_is)
  (case w_GUARD_WORDS=>(first | (unfold L2.KTup; kernel_rfl) | (unfold L2.KTab; kernel_rfl)))
  (case y_SHAPES=>k_is)
  (case w_SHAPES=>(first | (unfold L2.KTup; kernel_rfl) | (unfold L2.KTab; kernel_rfl)))
theorem PySem.Challenge.cw_latewrite_k05_texts_refused_holds : PySem.Challenge.rw_latewrite_k05_texts_refused.Holds := by
  rw [Own.rw_eq]
  exact Own.main_holds


