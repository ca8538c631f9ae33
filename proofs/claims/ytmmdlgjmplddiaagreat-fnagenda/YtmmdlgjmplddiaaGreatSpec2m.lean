/-
  OUR OWN TEXT. The model's side of Chapter 1: slots that are the same; good facts.
-/
import Derived.Test.YtmmdlgjmplddiaaGreatKak
namespace Go.Proofs.YtmmdlgjmplddiaaGreat
open Go.RowKit
attribute [local go_sem ↓] Go.wp_at_zero Go.wp_at_succ
set_option maxHeartbeats 1600000 in
theorem zb5 (a a':Option Addr) (c c':Nat) (vs us:List V) (w:World) (hv:zaV w a vs) (hv':zaV w a' us) (hl:vs.length≤1048576) :
  Calls Tryz.prog 124 #[.slice a vs.length c,.slice a' us.length c'] w fun e w'=>
   e=.returned (.bool (decide (vs=us)))∧Below w.heap.size w w':=by
 by_cases hll:vs.length=us.length
 ·have t1:((vs.length:Int) != (us.length:Int))=false:=by simp;omega
  have HLL:Hid (vs.length=us.length):=hll
  have l1:vs.length≤us.length:=by omega
  have l2:us.length≤vs.length:=by omega
  clear hll
  go_enter Tryz.func124,Tryz.ntmps124
  go_wp2
  go_loopw [13] (fun i wr=>∃ (k:Nat),k≤vs.length∧i=.int .i64 k∧decide (vs=us)=decide (vs.drop k=us.drop k)∧Below w.heap.size w wr) (fun i _=>vs.length - (intOf i).toNat)
  case atStart=>exact ⟨0,by omega,rfl,rfl,Below.refl _ _⟩
  case round=>
   obtain ⟨k,hk,rfl,hG,hb⟩:=hrel
   have HG:Hid (decide (vs=us)=decide (vs.drop k=us.drop k)):=hG
   clear hG
   by_cases hkl:k<vs.length
   ·obtain ⟨v,hvk⟩:∃ v,vs[k]?=some v:=⟨vs[k],by simp [hkl]⟩
    obtain ⟨u,huk⟩:∃ u,us[k]?=some u:=⟨us[k]'(by omega),by simp⟩
    obtain ⟨b,o,rfl,c0,c1,c2⟩:=hv.below hb k v hvk
    obtain ⟨b',o',rfl,d0,d1,d2⟩:=hv'.below hb k u huk
    have HD:Hid (vs.drop k=v :: vs.drop (k+1)):=zak hvk
    have HD':Hid (us.drop k=u :: us.drop (k+1)):=zak huk
    have z0:(0:Int)≤(k:Int):=by omega
    have z1:(k:Int)<(vs.length:Int):=by omega
    have z2:(k:Int)<(us.length:Int):=by omega
    cases e1:(v.kind==u.kind) <;> cases e2:(v.num==u.num) <;> cases e3:(v.sym.toList==u.sym.toList)
    all_goals
     go_wp2
     go_region_held3 (fun w'=>w'.cell? ⟨b,o+k * 3,none⟩=some (.int .i64 v.kind)∧w'.cell? ⟨b,o+k * 3+1,none⟩=some (.int .i64 v.num)∧w'.cell? ⟨b,o+k * 3+2,none⟩=some (.string v.sym)∧w'.cell? ⟨b',o'+k * 3,none⟩=some (.int .i64 u.kind)∧w'.cell? ⟨b',o'+k * 3+1,none⟩=some (.int .i64 u.num)∧w'.cell? ⟨b',o'+k * 3+2,none⟩=some (.string u.sym)) (go_keep) (fail)
     go_wp2
    all_goals
     first
     | (go_roundw
        case rel=>exact ⟨k+1,by omega,by go_num,by rw [HG.out,HD.out,HD'.out,zon (veq e1 e2 e3)],hb.drew⟩
        case measure=>simp [intOf];omega)
     | (go_ret
        exact ⟨zac (by rw [HG.out,HD.out,HD'.out,zoJ (by rintro rfl;simp at e1 e2 e3)]),hb.drew⟩)
   ·go_wp2
    go_ret
    exact ⟨zac (by rw [HG.out,List.drop_eq_nil_of_le (by omega),List.drop_eq_nil_of_le (by omega)];rfl),hb⟩
 ·have t1:((vs.length:Int) != (us.length:Int))=true:=by simp;omega
  go_enter Tryz.func124,Tryz.ntmps124
  go_wp2
  go_ret
  exact ⟨zac (by rw [decide_eq_false (fun e=>hll (by rw [e]))]),Below.refl _ _⟩
end Go.Proofs.YtmmdlgjmplddiaaGreat
