/-
  OUR OWN TEXT. The model's side of the checker: a rule's shape.
-/
import Derived.Test.YtmmdlgjmplddiaaGreatHba
import Derived.Test.YtmmdlgjmplddiaaGreatSc4m
import Derived.Test.YtmmdlgjmplddiaaGreatHbj
import Derived.Test.YtmmdlgjmplddiaaGreatHbk
namespace Go.Proofs.YtmmdlgjmplddiaaGreat
open Go.RowKit
attribute [local go_sem ↓] Go.wp_at_zero Go.wp_at_succ
theorem zmn {w:World}{b o:Nat}{x:Value} (h:w.cell? ⟨b,o,none⟩=some x):b<w.heap.size:=by
 by_cases hp:b<w.heap.size
 ·exact hp
 ·have:w.heap[b]?=none:=Array.getElem?_eq_none (by omega)
  simp [World.cell?,this] at h
set_option maxHeartbeats 3200000 in
theorem zih (x:Ru) (a_pats:Option Addr) (c_pats:Nat) (a_exprs:Option Addr) (c_exprs:Nat) (a_acts:Option Addr) (c_acts:Nat) {q:Option Nat} (w:World) (h_pats:zbY q w a_pats x.pats) (h_exprs:za8 q w a_exprs x.exprs) (h_acts:zcu q w a_acts x.acts) (hle:x.le 1048576) (ho:zd0 x.exprs) :
  Calls Tryz.prog 116 #[.agg #[.string x.name,.int .i64 x.sal,.slice a_pats x.pats.length c_pats,.slice a_exprs x.exprs.length c_exprs,.slice a_acts x.acts.length c_acts]] w fun e w'=>e=.returned (.int .i64 (zeI (shape x)))∧Below w.heap.size w w':=by
 obtain ⟨hsn0,hsp,hse,hsa⟩:=hle
 have hsn:x.name.size≤maxLen:=Nat.le_trans hsn0 zbj
 have hpl:=hsp.1
 have hel:=hse.1
 have hal:=hsa.1
 have B0:∀ o,Below w.heap.size w (w.alloc o):=fun o=>(Below.refl _ _).alloc (Nat.le_refl _) _
 cases hg:gSym x.name.data.toList
 ·have HN:Hid (shape x=some 0):=show shape x=some 0 from by simp [shape,zci,hg]
  go_enter Tryz.func116,Tryz.ntmps116
  go_wp2_with (go_at_call 87;refine (zaH x.name _ hsn).mono ?_;rintro e w' ⟨rfl,rfl⟩)
  go_ret
  exact ⟨zaX (by rw [HN.out];rfl),B0 _⟩
 by_cases l6:6<x.pats.length
 ·have l6':(6:Int)<(x.pats.length:Int):=by omega
  have HN:Hid (shape x=some 0):=show shape x=some 0 from by simp [shape,zci];omega
  go_enter Tryz.func116,Tryz.ntmps116
  go_wp2_with (go_at_call 87;refine (zaH x.name _ hsn).mono ?_;rintro e w' ⟨rfl,rfl⟩)
  go_ret
  exact ⟨zaX (by rw [HN.out];rfl),B0 _⟩
 have l6':¬ (6:Int)<(x.pats.length:Int):=by omega
 by_cases l8:8<x.acts.length
 ·have l8':(8:Int)<(x.acts.length:Int):=by omega
  have HN:Hid (shape x=some 0):=show shape x=some 0 from by simp [shape,zci];omega
  go_enter Tryz.func116,Tryz.ntmps116
  go_wp2_with (go_at_call 87;refine (zaH x.name _ hsn).mono ?_;rintro e w' ⟨rfl,rfl⟩)
  go_ret
  exact ⟨zaX (by rw [HN.out];rfl),B0 _⟩
 have l8':¬ (8:Int)<(x.acts.length:Int):=by omega
 by_cases l60:60<x.exprs.length
 ·have l60':(60:Int)<(x.exprs.length:Int):=by omega
  have HN:Hid (shape x=some 0):=show shape x=some 0 from by simp [shape,zci];omega
  go_enter Tryz.func116,Tryz.ntmps116
  go_wp2_with (go_at_call 87;refine (zaH x.name _ hsn).mono ?_;rintro e w' ⟨rfl,rfl⟩)
  go_ret
  exact ⟨zaX (by rw [HN.out];rfl),B0 _⟩
 have l60':¬ (60:Int)<(x.exprs.length:Int):=by omega
 have HH:Hid (shape x=match zaD gPt x.pats 1 with | some i=>some i | none=>rest x):=zg1 x (by simp [zci,hg];omega)
 go_enter Tryz.func116,Tryz.ntmps116
 go_wp2_with (go_at_call 87;refine (zaH x.name _ hsn).mono ?_;rintro e w' ⟨rfl,rfl⟩)
 go_loopw [34] (fun i wr=>∃ (k:Nat),k≤x.pats.length∧i=.int .i64 k∧(shape x=match zaD gPt (x.pats.drop k) (k+1) with | some i=>some i | none=>rest x)∧zcf wr w.heap.size x a_pats c_pats a_exprs c_exprs a_acts c_acts∧Below w.heap.size w wr) (fun i _=>x.pats.length - (intOf i).toNat)
 case atStart=>exact ⟨0,by omega,rfl,HH.out,zcf.made _ _ _ _ _ _ _ _ _,B0 _⟩
 case round=>
  obtain ⟨k,hk,rfl,hG,hbox,hb⟩:=hrel
  have HG:Hid (shape x=match zaD gPt (x.pats.drop k) (k+1) with | some i=>some i | none=>rest x):=hG
  clear hG
  by_cases hkl:k<x.pats.length
  ·obtain ⟨p,hpk⟩:∃ p,x.pats[k]?=some p:=⟨x.pats[k],by simp [hkl]⟩
   obtain ⟨b,o,a_terms,c_terms,rfl,hq,c0,c1,c2,h_terms⟩:=(h_pats.below hb).get hpk
   have hpp:=hsp.2 p (List.mem_of_getElem? hpk)
   have HD:Hid (x.pats.drop k=p :: x.pats.drop (k+1)):=zan hpk
   have B1:∀ o,Below wr.heap.size wr (wr.alloc o):=fun o=>(Below.refl _ _).alloc (Nat.le_refl _) _
   cases hgp:gPt p
   all_goals
    go_wp2_with (go_at_call 36;refine (zgz p a_terms c_terms _ (h_terms.below (B1 _)) (Nat.le_trans hpp.1 zbj) (hpp.2.mono zbj (Tm.mono zbj)) hpp.2.1).mono ?_;rintro e w1 ⟨rfl,hb1⟩)
   ·have HN:Hid (shape x=some (k+1)):=show shape x=_ from by rw [HG.out,HD.out,zaA,hgp];rfl
    have hW1:Below wr.heap.size wr w1:=(B1 _).trans (hb1.mono (by simp))
    go_ret
    exact ⟨zaX (by rw [HN.out];simp [zeI]),hb.trans (hW1.mono hb.size)⟩
   ·have HN:Hid (shape x=match zaD gPt (x.pats.drop (k+1)) (k+1+1) with | some i=>some i | none=>rest x):=show shape x=_ from by rw [HG.out,HD.out,zaA,hgp];rfl
    have hW1:Below wr.heap.size wr w1:=(B1 _).trans (hb1.mono (by simp))
    go_roundw
    case rel=>exact ⟨k+1,by omega,by go_num,HN.out,hbox.below hW1,hb.trans (hW1.mono hb.size)⟩
    case measure=>simp [intOf];omega
  ·have HR:Hid (shape x=rest x):=show shape x=rest x from by rw [HG.out,List.drop_eq_nil_of_le (by omega)];rfl
   have HBX:=zbK hbox
   obtain ⟨q0,q1,q2,q3,q4⟩:=hbox
   go_wp2
   clear q0 q1 q2 q3 q4
   go_loopw [48] (fun i wr'=>∃ (S:List Sp),S.length≤x.exprs.length∧i=.int .i64 (S.length:Int)∧Spans x.exprs S∧zas [] x.exprs=zas S (x.exprs.drop S.length)∧zcf wr' w.heap.size x a_pats c_pats a_exprs c_exprs a_acts c_acts∧Below w.heap.size w wr') (fun i _=>x.exprs.length - (intOf i).toNat)
   case atStart=>exact ⟨[],by simp,rfl,Spans.nil _,rfl,HBX.out,hb⟩
   case round=>
    clear HBX hb HG hk hkl
    obtain ⟨S,hk,rfl,hS,hG,hbox,hb⟩:=hrel
    have HG:=zbK hG
    have HS:=zbK hS
    have HBX:=zbK hbox
    clear hG hS
    obtain ⟨q0,q1,q2,q3,q4⟩:=hbox
    by_cases hkl:S.length<x.exprs.length
    ·obtain ⟨e,hek⟩:∃ e,x.exprs[S.length]?=some e:=⟨x.exprs[S.length],by simp [hkl]⟩
     have HD:Hid (x.exprs.drop S.length=e :: x.exprs.drop (S.length+1)):=zan hek
     have hee:=(hse.mono zbj (Ex.mono zbj)).2 e (List.mem_of_getElem? hek)
     obtain ⟨ho0,ho1⟩:=ho e (List.mem_of_getElem? hek)
     have hGE:=zbK (fun w' h=>zfO a_exprs c_exprs x.exprs S e w' (q:=q) h (by omega) HS.out hek hee ho0 ho1)
     cases hso:zaE S e with
     | none=>
      rw [hso] at hGE
      have HN:Hid (shape x=some (S.length+1)):=show shape x=_ from by
       have h1:zas [] x.exprs=S:=by rw [HG.out,HD.out,zas,hso]
       rw [HR.out]
       unfold rest
       rw [h1,if_pos hkl]
      go_wp2_with (go_at_call 143;refine (hGE.out _ (h_exprs.below hb)).mono ?_;rintro e' w1 ⟨rfl,hb1⟩)
      go_ret
      exact ⟨zaX (by rw [HN.out];simp [zeI]),hb.trans (hb1.mono hb.size)⟩
     | some s=>
      rw [hso] at hGE
      have HN:Hid (zas [] x.exprs=zas (S ++ [s]) (x.exprs.drop (S.length+1))):=show zas [] x.exprs=_ from by rw [HG.out,HD.out,zas,hso]
      go_wp2_with (go_at_call 143;refine (hGE.out _ (h_exprs.below hb)).mono ?_;rintro e' w1 ⟨rfl,hb1⟩)
      go_roundw
      case rel=>exact ⟨S ++ [s],by simp;omega,by simp,HS.out.snoc hek hso,by rw [HN.out];simp,HBX.out.below hb1,hb.trans (hb1.mono hb.size)⟩
      case measure=>simp [intOf];omega
    ·have hfull:S.length=x.exprs.length:=by omega
     have h1:zas [] x.exprs=S:=by
      rw [HG.out,List.drop_eq_nil_of_le (by omega)]
      rfl
     have HR2:Hid (shape x=zb6 S x.acts 0 1):=show shape x=_ from by
      rw [HR.out]
      unfold rest
      rw [h1,if_neg (by omega)]
     have HFL:=zbK hfull
     clear h1 HG HR hfull
     have hwl:w.heap.size<wr.heap.size:=zmn q0
     go_wp2
     obtain ⟨wo,rfl⟩:∃ u,u=wr:=⟨wr,rfl⟩
     have hbo:Below w.heap.size w (wo.alloc (.cells #[.int .i64 0] 3)):=hb.alloc hb.size _
     have hbx0:=HBX.out.below (w':=wo.alloc (.cells #[.int .i64 0] 3)) ((Below.refl _ _).alloc (Nat.le_refl _) _)
     clear q0 q1 q2 q3 q4 HBX
     go_loopw [62] (fun i wr'=>∃ (k nk:Nat),k≤x.acts.length∧i=.int .i64 k∧nk≤60∧shape x=zb6 S (x.acts.drop k) nk (k+1)∧wr'.cell? ⟨wo.heap.size,0,none⟩=some (.int .i64 (nk:Int))∧wr'.frozen? ⟨wo.heap.size,0,none⟩=false∧wo.heap.size<wr'.heap.size∧zcf wr' w.heap.size x a_pats c_pats a_exprs c_exprs a_acts c_acts∧Below w.heap.size w wr') (fun i _=>x.acts.length - (intOf i).toNat)
     case atStart=>exact ⟨0,0,by omega,rfl,by omega,HR2.out,by simp [go_sem],by simp [go_sem],by simp,hbx0,hbo⟩
     case round=>
      clear hbo hbx0 hb
      obtain ⟨k,nk,hk2,rfl,hnk,hG,hp1,hf1,hpl1,hbox,hb⟩:=hrel
      have HG:=zbK hG
      have HBX:=zbK hbox
      clear hG
      obtain ⟨q0,q1,q2,q3,q4⟩:=hbox
      by_cases hkl2:k<x.acts.length
      ·obtain ⟨y,hyk⟩:∃ y,x.acts[k]?=some y:=⟨x.acts[k],by simp [hkl2]⟩
       obtain ⟨b,o,a_args,c_args,rfl,hq,c0,c1,c2,c3,h_args0⟩:=h_acts.get hyk
       have d0:=zaa hb c0
       have d1:=zaa hb c1
       have d2:=zaa hb c2
       have d3:=zaa hb c3
       clear c0 c1 c2 c3
       have hyy:=hsa.2 y (List.mem_of_getElem? hyk)
       have HD:Hid (x.acts.drop k=y :: x.acts.drop (k+1)):=zan hyk
       have hBw:∀ o,Below wr.heap.size wr (wr.alloc o):=fun o=>(Below.refl _ _).alloc (Nat.le_refl _) _
       have hBa:∀ o,Below w.heap.size w (wr.alloc o):=fun o=>hb.alloc hb.size _
       have hGA:=zbK (fun w' h0 hp hf hpw=>zgn x a_pats c_pats a_exprs c_exprs (some ⟨b,o,none⟩) c_acts y a_args c_args wo.heap.size nk S (q:=q) w w' h0 h_exprs h_args0 HS.out HFL.out (by omega) (Nat.le_trans hyy.1 zbj) hyy.2 hp hf (by omega) hpw hnk)
       have q0':∀ o,(wr.alloc o).cell? ⟨w.heap.size,0,none⟩=_:=fun o=>zaa (hBw o) q0
       have q1':∀ o,(wr.alloc o).cell? ⟨w.heap.size,1,none⟩=_:=fun o=>zaa (hBw o) q1
       have q2':∀ o,(wr.alloc o).cell? ⟨w.heap.size,2,none⟩=_:=fun o=>zaa (hBw o) q2
       have q3':∀ o,(wr.alloc o).cell? ⟨w.heap.size,3,none⟩=_:=fun o=>zaa (hBw o) q3
       have q4':∀ o,(wr.alloc o).cell? ⟨w.heap.size,4,none⟩=_:=fun o=>zaa (hBw o) q4
       clear q0 q1 q2 q3 q4
       cases hga:gAc S y nk with
       | none=>
        rw [hga] at hGA
        have HN:Hid (shape x=some (k+1)):=show shape x=_ from by rw [HG.out,HD.out,zca,hga]
        go_wp2_with (go_at_call 144;refine (hGA.out _ (hBa _) (zaa (hBw _) hp1) (by rw [(bcell (hBw _)).2 _ _ hpl1];exact hf1) (by simp;omega)).mono ?_;rintro e w3 ⟨rfl,hb3,hn3,hf3⟩)
        go_ret
        exact ⟨zaX (by rw [HN.out];simp [zeI]),(hBa _).trans (hb3.mono (by omega))⟩
       | some nk'=>
        rw [hga] at hGA
        have HN:Hid (shape x=zb6 S (x.acts.drop (k+1)) nk' (k+1+1)):=show shape x=_ from by rw [HG.out,HD.out,zca,hga]
        go_wp2_with (go_at_call 144;refine (hGA.out _ (hBa _) (zaa (hBw _) hp1) (by rw [(bcell (hBw _)).2 _ _ hpl1];exact hf1) (by simp;omega)).mono ?_;rintro e w3 ⟨rfl,hb3,hn3,hf3⟩)
        obtain ⟨hn60,hp3⟩:=hn3 nk' rfl
        have hs3:=hb3.size
        go_roundw
        case rel=>exact ⟨k+1,nk',by omega,by go_num,hn60,HN.out,hp3,hf3,by simp at hs3;omega,(HBX.out.below (hBw _)).belowB hb3 (by omega),(hBa _).trans (hb3.mono (by omega))⟩
        case measure=>simp [intOf];omega
      ·have e0:x.acts.drop k=[]:=List.drop_eq_nil_of_le (by omega)
       have HE:Hid (shape x=if nk=S.length then none else some (k+1)):=show shape x=_ from by rw [HG.out,e0];rfl
       have hkk:k=x.acts.length:=by omega
       by_cases hfin:nk=x.exprs.length
       ·have hne:((nk:Int) != (x.exprs.length:Int))=false:=by simp;omega
        go_wp2
        go_ret
        exact ⟨zaX (by rw [HE.out,if_pos (by have:=HFL.out;omega)];rfl),hb⟩
       ·have hne:((nk:Int) != (x.exprs.length:Int))=true:=by simp;omega
        go_wp2
        go_ret
        exact ⟨zaX (by rw [HE.out,if_neg (by have:=HFL.out;omega)];simp [zeI];omega),hb⟩
end Go.Proofs.YtmmdlgjmplddiaaGreat
