/-
  OUR OWN TEXT. Sp10, Spec1, Sp20, one behind the other.
-/
import Derived.Test.YtmmdlgjmplddiaaGreatSym
import Derived.Test.YtmmdlgjmplddiaaGreatKai
import Derived.Deep.RegionHeld3
import Derived.Deep.DrawnRows
namespace Go.Proofs.YtmmdlgjmplddiaaGreat
open Go.RowKit
attribute [local go_sem ↓] Go.wp_at_zero Go.wp_at_succ
set_option maxHeartbeats 800000 in
theorem zcw (v:V) (w:World) (hs:v.sym.size≤maxLen) :
  Calls Tryz.prog 110 #[.agg #[.int .i64 v.kind,.int .i64 v.num,.string v.sym]] w fun e w'=>
   e=.returned (.bool (gVal v))∧Below w.heap.size w w':=by
 have B1:∀ o,Below w.heap.size w (w.alloc o):=fun o=>(Below.refl _ _).alloc (Nat.le_refl _) _
 obtain ⟨G⟩:Nonempty (Hid (gVal v=((v.kind==0 && v.sym.toList.isEmpty) || (v.kind==1 && (v.num==0 && gSym v.sym.data.toList))))):=⟨rfl⟩
 have hg:=zaQ v.sym (w.alloc (.cells #[.int .i64 v.kind,.int .i64 v.num,.string v.sym] 109)) hs
 cases h1:(v.kind==0) <;> cases h2:v.sym.toList.isEmpty <;> cases h3:(v.kind==1) <;> cases h4:(v.num==0)
 all_goals
  go_enter Tryz.func110,Tryz.ntmps110
  go_wp2_with (go_at_call 87;refine hg.mono ?_;rintro e w' ⟨rfl,rfl⟩)
 all_goals try go_ret
 all_goals exact ⟨zac (by rw [G.out,h1,h2,h3,h4];simp),B1 _⟩
end Go.Proofs.YtmmdlgjmplddiaaGreat
namespace Go.Proofs.YtmmdlgjmplddiaaGreat
open Go.RowKit
attribute [local go_sem ↓] Go.wp_at_zero Go.wp_at_succ
set_option maxHeartbeats 800000 in
theorem zb0 (a:Option Addr) (c:Nat) (vs:List V) (w:World) (hv:zaV w a vs) (hl:vs.length≤1048576) (hs:∀ v∈vs,v.sym.size≤maxLen) :
  Calls Tryz.prog 88 #[.slice a vs.length c] w fun e w'=>
   e=.returned (.bool (zbn vs))∧Below w.heap.size w w':=by
 obtain ⟨G⟩:Nonempty (Hid (zbn vs=(decide (vs.length≤6) && vs.all gVal))):=⟨rfl⟩
 by_cases h6:6<vs.length
 ·have h6':(6:Int)<(vs.length:Int):=by omega
  go_enter Tryz.func88,Tryz.ntmps88
  go_wp2
  go_ret
  exact ⟨zac (by rw [G.out,decide_eq_false (by omega)];rfl),Below.refl _ _⟩
 ·have h6':¬ (6:Int)<(vs.length:Int):=by omega
  go_enter Tryz.func88,Tryz.ntmps88
  go_wp2
  go_loopw [10] (fun i wr=>∃ (k:Nat),k≤vs.length∧i=.int .i64 k∧zbn vs=(vs.drop k).all gVal∧Below w.heap.size w wr) (fun i _=>vs.length - (intOf i).toNat)
  case atStart=>exact ⟨0,by omega,rfl,by rw [G.out,decide_eq_true (by omega)];rfl,Below.refl _ _⟩
  case round=>
   obtain ⟨k,hk,rfl,hG,hb⟩:=hrel
   have HG:Hid (zbn vs=(vs.drop k).all gVal):=hG
   clear hG
   by_cases hkl:k<vs.length
   ·obtain ⟨v,hvk⟩:∃ v,vs[k]?=some v:=⟨vs[k],by simp [hkl]⟩
    obtain ⟨b,o,rfl,c0,c1,c2⟩:=hv.below hb k v hvk
    have hsv:v.sym.size≤maxLen:=hs v (List.mem_of_getElem? hvk)
    have HD:Hid (vs.drop k=v :: vs.drop (k+1)):=by
     obtain ⟨h,rfl⟩:=List.getElem?_eq_some_iff.1 hvk
     exact List.drop_eq_getElem_cons h
    have B1:∀ o,Below wr.heap.size wr (wr.alloc o):=fun o=>(Below.refl _ _).alloc (Nat.le_refl _) _
    cases hgv:gVal v
    all_goals
     go_wp2_with (go_at_call 110;refine (zcw v _ hsv).mono ?_;rintro e w' ⟨rfl,hb'⟩)
    ·go_ret
     exact ⟨zac (by rw [HG.out,HD.out,List.all_cons,hgv];rfl),hb.trans (((B1 _).trans (hb'.mono (by simp))).mono hb.size)⟩
    ·go_roundw
     case rel=>exact ⟨k+1,by omega,by go_num,by rw [HG.out,HD.out,List.all_cons,hgv];rfl,hb.trans (((B1 _).trans (hb'.mono (by simp))).mono hb.size)⟩
     case measure=>simp [intOf];omega
   ·go_wp2
    go_ret
    exact ⟨zac (by rw [HG.out,List.drop_eq_nil_of_le (by omega)];rfl),hb⟩
end Go.Proofs.YtmmdlgjmplddiaaGreat
namespace Go.Proofs.YtmmdlgjmplddiaaGreat
open Go.RowKit
attribute [local go_sem ↓] Go.wp_at_zero Go.wp_at_succ
theorem zaL {a b:ByteArray}:(a.toList==b.toList)=decide (a=b):=by
 rw [← beq_toListBytes]
 by_cases h:a=b
 ·subst h
  rw [beq_toListBytes]
  simp
 ·rw [decide_eq_false h,beq_toListBytes]
  simp only [beq_eq_false_iff_ne,ne_eq,ByteArray.toList_eq]
  intro e
  exact h (Go.WideShapes.bytes_inj e)
theorem veq {v u:V} (h1:(v.kind==u.kind)=true) (h2:(v.num==u.num)=true) (h3:(v.sym.toList==u.sym.toList)=true):v=u:=by
 rw [zaL] at h3
 exact V.same (by simpa using h1) (by simpa using h2) (by simpa using h3)
theorem zon {v u:V}{l l':List V} (h:v=u):decide (v :: l=u :: l')=decide (l=l'):=by
 subst h
 by_cases e:l=l' <;> simp [e]
theorem zoJ {v u:V}{l l':List V} (h:v≠u):decide (v :: l=u :: l')=false:=by
 simp [h]
end Go.Proofs.YtmmdlgjmplddiaaGreat
