/-
  OUR OWN TEXT. To1, To, Eq1, Eq, one behind the other.
-/
import Derived.Test.YtmmdlgjmplddiaaGreatKah
import Derived.Test.YtmmdlgjmplddiaaGreatKag
import Derived.Deep.RegionHeld3
import Derived.Deep.DrawnRows
namespace Go.Proofs.YtmmdlgjmplddiaaGreat
open Go.RowKit
theorem zo7:(Tryz.prog.info? 42).map (fun i=>(i.zero,i.size,i.bytes))=some (some (.agg #[.int .i64 0,.string ByteArray.empty,.slice none 0 0]),3,48):=by kernel_rfl
structure zfX (w:World) (g:Nat) (N:Nat) (fs:List F) (gs:List Nat):Prop where
 len:gs.length=fs.length
 own:OwnB w g 42 3 N ((fs.zip gs).map fun p=>fcells p.1 (.slice (some ⟨p.2,0,none⟩) p.1.slots.length p.1.slots.length))
 each:∀ (i:Nat) (f:F) (h:Nat),fs[i]?=some f→gs[i]?=some h→OwnB w h 109 3 f.slots.length (f.slots.map V.cells)
 gt:∀ h∈gs,g<h
 nodup:gs.Nodup
theorem zfX.at {w:World}{g N:Nat}{fs:List F}{gs:List Nat} (h:zfX w g N fs gs):zaH w (some ⟨g,0,none⟩) fs:=by
 intro i f hf
 obtain ⟨hi,rfl⟩:=List.getElem?_eq_some_iff.1 hf
 have hg:gs[i]?=some (gs[i]'(by rw [h.len];exact hi)):=List.getElem?_eq_getElem _
 have hz:((fs.zip gs).map fun p=>fcells p.1 (.slice (some ⟨p.2,0,none⟩) p.1.slots.length p.1.slots.length))[i]?=some (fcells fs[i] (.slice (some ⟨gs[i]'(by rw [h.len];exact hi),0,none⟩) fs[i].slots.length fs[i].slots.length)):=by
  rw [List.getElem?_map,List.getElem?_zip_eq_some (z:=(fs[i],gs[i]'(by rw [h.len];exact hi))) |>.2 ⟨hf,hg⟩]
  rfl
 refine ⟨g,0,rfl,?_,?_,some ⟨gs[i]'(by rw [h.len];exact hi),0,none⟩,fs[i].slots.length,?_,zaV.own (h.each i _ _ hf hg)⟩
 ·simpa using h.own.cell hz (j:=0) rfl
 ·simpa using h.own.cell hz (j:=1) rfl
 ·simpa using h.own.cell hz (j:=2) rfl
theorem zfX.lt {w:World}{g N:Nat}{fs:List F}{gs:List Nat} (h:zfX w g N fs gs):g<w.heap.size∧∀ x∈gs,x<w.heap.size:=by
 refine ⟨h.own.lt,fun x hx=>?_⟩
 obtain ⟨i,hi,rfl⟩:=List.getElem_of_mem hx
 have hf:i<fs.length:=by rw [← h.len];exact hi
 exact (h.each i fs[i] gs[i] (List.getElem?_eq_getElem hf) (List.getElem?_eq_getElem hi)).lt
theorem zfX.below {w w':World}{g N B:Nat}{fs:List F}{gs:List Nat} (h:zfX w g N fs gs) (hb:Below B w w') (hB:w.heap.size≤B):zfX w' g N fs gs:=by
 have hl:=h.lt
 refine ⟨h.len,h.own.below hb (by omega),fun i f x hf hx=>(h.each i f x hf hx).below hb ?_,h.gt,h.nodup⟩
 have:=hl.2 x (List.mem_of_getElem? hx)
 omega
theorem zfX.step {w w':World}{g N k h:Nat}{fs:List F}{gs:List Nat}{f:F} (H:zfX w g N fs gs) (hb:Below w.heap.size w w') (ho:OwnB w' h 109 3 f.slots.length (f.slots.map V.cells)) (hh:w.heap.size≤h) (hk:fs.length=k) (hN:k<N) :
  zfX (((w'.setCell ⟨g,k * 3,none⟩ (.int .i64 f.tag)).setCell ⟨g,k * 3+1,none⟩ (.string f.cls)).setCell ⟨g,k * 3+2,none⟩ (.slice (some ⟨h,0,none⟩) f.slots.length f.slots.length)) g N (fs ++ [f]) (gs ++ [h]):=by
 have hl:=H.lt
 have H':=H.below hb (Nat.le_refl _)
 have hlen:gs.length=k:=by rw [H.len,hk]
 refine ⟨by simp [H.len],?_,?_,?_,?_⟩
 ·have:=H'.own.put3 (k:=k) (by simp [H.len,hk]) hN (.int .i64 f.tag) (.string f.cls) (.slice (some ⟨h,0,none⟩) f.slots.length f.slots.length)
  rw [List.zip_append (by rw [H.len]),List.map_append]
  exact this
 ·intro i f' x hf hx
  have hxg:x≠g:=by
   have:x∈gs ++ [h]:=List.mem_of_getElem? hx
   rcases List.mem_append.1 this with hm | hm
   ·have:=H.gt x hm
    omega
   ·simp at hm
    omega
  have key:OwnB w' x 109 3 f'.slots.length (f'.slots.map V.cells):=by
   by_cases hi:i<fs.length
   ·rw [List.getElem?_append_left hi] at hf
    rw [List.getElem?_append_left (by omega)] at hx
    exact H'.each i f' x hf hx
   ·have hil:i<(fs ++ [f]).length:=(List.getElem?_eq_some_iff.1 hf).1
    simp at hil
    obtain rfl:i=fs.length:=by omega
    rw [List.getElem?_append_right (Nat.le_refl _)] at hf
    rw [List.getElem?_append_right (by omega)] at hx
    simp at hf
    subst hf
    rw [show fs.length - gs.length=0 by omega] at hx
    simp at hx
    subst hx
    exact ho
  exact ((key.setOther hxg _).setOther hxg _).setOther hxg _
 ·intro x hx
  rcases List.mem_append.1 hx with hm | hm
  ·exact H.gt x hm
  ·simp at hm
   omega
 ·rw [List.nodup_append]
  refine ⟨H.nodup,by simp,fun a ha b hb=>?_⟩
  simp at hb
  have:=hl.2 a ha
  omega
end Go.Proofs.YtmmdlgjmplddiaaGreat
namespace Go.Proofs.YtmmdlgjmplddiaaGreat
open Go.RowKit
end Go.Proofs.YtmmdlgjmplddiaaGreat
namespace Go.Proofs.YtmmdlgjmplddiaaGreat
open Go.RowKit
attribute [local go_sem ↓] Go.wp_at_zero Go.wp_at_succ
end Go.Proofs.YtmmdlgjmplddiaaGreat
namespace Go.Proofs.YtmmdlgjmplddiaaGreat
open Go.RowKit
attribute [local go_sem ↓] Go.wp_at_zero Go.wp_at_succ
end Go.Proofs.YtmmdlgjmplddiaaGreat
