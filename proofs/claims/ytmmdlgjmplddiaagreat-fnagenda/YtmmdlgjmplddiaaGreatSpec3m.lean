/-
  OUR OWN TEXT. The model's side of Chapter 1: good facts.
-/
import Derived.Test.YtmmdlgjmplddiaaGreatKak
namespace Go.Proofs.YtmmdlgjmplddiaaGreat
open Go.RowKit
def Sized (f:F):Prop:=f.cls.size≤maxLen∧f.slots.length≤1048576∧∀ v∈f.slots,v.sym.size≤maxLen
set_option maxHeartbeats 1600000 in
theorem zbX (a:Option Addr) (c:Nat) (fs:List F) (w:World) (hv:zaH w a fs) (hl:fs.length≤1048576) (hs:∀ f∈fs,Sized f) :
  Calls Tryz.prog 64 #[.slice a fs.length c] w fun e w'=>
   e=.returned (.bool (zaS fs))∧Below w.heap.size w w':=by
 obtain ⟨G⟩:Nonempty (Hid (zaS fs=(decide (fs.length≤40) && zbs 0 fs))):=⟨rfl⟩
 by_cases h6:40<fs.length
 ·have h6':(40:Int)<(fs.length:Int):=by omega
  go_enter Tryz.func64,Tryz.ntmps64
  go_wp2
  go_ret
  exact ⟨zac (by rw [G.out,decide_eq_false (by omega)];rfl),Below.refl _ _⟩
 ·have h6':¬ (40:Int)<(fs.length:Int):=by omega
  go_enter Tryz.func64,Tryz.ntmps64
  go_wp2
  go_loopw [3,11] (fun l i wr=>∃ (k:Nat) (last:Int),k≤fs.length∧i=.int .i64 k∧l=.int .i64 last∧zaS fs=zbs last (fs.drop k)∧Below w.heap.size w wr) (fun _ i _=>fs.length - (intOf i).toNat)
  case atStart=>exact ⟨0,0,by omega,rfl,rfl,by rw [G.out,decide_eq_true (by omega)];rfl,Below.refl _ _⟩
  case round=>
   obtain ⟨k,last,hk,rfl,rfl,hG,hb⟩:=hrel
   have HG:Hid (zaS fs=zbs last (fs.drop k)):=hG
   clear hG
   by_cases hkl:k<fs.length
   ·obtain ⟨f,hfk⟩:∃ f,fs[k]?=some f:=⟨fs[k],by simp [hkl]⟩
    obtain ⟨b,o,rfl,c0,c1,s,cs,c2,hsl⟩:=hv.below hb k f hfk
    obtain ⟨hs1,hs2,hs3⟩:=hs f (List.mem_of_getElem? hfk)
    have HD:Hid (fs.drop k=f :: fs.drop (k+1)):=zak hfk
    have HO:Hid (okF last f=(decide (last<f.tag) && (decide (f.tag≤1000000) && (gSym f.cls.data.toList && zbn f.slots)))):=rfl
    have B1:∀ o,Below wr.heap.size wr (wr.alloc o):=fun o=>(Below.refl _ _).alloc (Nat.le_refl _) _
    have bad:Hid (okF last f=false→zaS fs=false):=fun e=>by rw [HG.out,HD.out,zbs,e];rfl
    have good:Hid (okF last f=true→zaS fs=zbs f.tag (fs.drop (k+1))):=fun e=>by rw [HG.out,HD.out,zbs,e];rfl
    by_cases h1:f.tag≤last
    ·have HB:Hid (zaS fs=false):=bad.out (by rw [HO.out,decide_eq_false (by omega)];rfl)
     go_wp2
     go_ret
     exact ⟨zac HB.out.symm,hb.trans ((B1 _).mono hb.size)⟩
    ·by_cases h2:1000000<f.tag
     ·have HB:Hid (zaS fs=false):=bad.out (by rw [HO.out,decide_eq_false (p:=f.tag≤1000000) (by omega)];simp)
      go_wp2
      go_ret
      exact ⟨zac HB.out.symm,hb.trans ((B1 _).mono hb.size)⟩
     ·cases h3:gSym f.cls.data.toList
      ·have HB:Hid (zaS fs=false):=bad.out (by rw [HO.out,h3];simp)
       go_wp2_with (go_at_call 87;refine (zaQ f.cls _ hs1).mono ?_;rintro e w' ⟨rfl,rfl⟩)
       go_ret
       exact ⟨zac HB.out.symm,hb.trans ((B1 _).mono hb.size)⟩
      ·cases h4:zbn f.slots
       ·have HB:Hid (zaS fs=false):=bad.out (by rw [HO.out,h4];simp)
        go_wp2_with (first | (go_at_call 87;refine (zaQ f.cls _ hs1).mono ?_;rintro e w' ⟨rfl,rfl⟩) | (go_at_call 88;refine (zb0 s cs f.slots _ (hsl.below (B1 _)) hs2 hs3).mono ?_;rintro e w1 ⟨rfl,hb'⟩))
        go_ret
        exact ⟨zac HB.out.symm,hb.trans (((B1 _).trans (hb'.mono (by simp))).mono hb.size)⟩
       ·have HB:Hid (zaS fs=zbs f.tag (fs.drop (k+1))):=good.out (by rw [HO.out,h3,h4,decide_eq_true (by omega),decide_eq_true (by omega)];rfl)
        go_wp2_with (first | (go_at_call 87;refine (zaQ f.cls _ hs1).mono ?_;rintro e w' ⟨rfl,rfl⟩) | (go_at_call 88;refine (zb0 s cs f.slots _ (hsl.below (B1 _)) hs2 hs3).mono ?_;rintro e w1 ⟨rfl,hb'⟩;obtain ⟨hc,hf⟩:=bcell hb'))
        go_roundw
        case rel=>exact ⟨k+1,f.tag,by omega,by go_num,rfl,HB.out,hb.trans (((B1 _).trans (hb'.mono (by simp))).mono hb.size)⟩
        case measure=>simp [intOf];omega
   ·go_wp2
    go_ret
    exact ⟨zac (by rw [HG.out,List.drop_eq_nil_of_le (by omega)];rfl),hb⟩
end Go.Proofs.YtmmdlgjmplddiaaGreat
