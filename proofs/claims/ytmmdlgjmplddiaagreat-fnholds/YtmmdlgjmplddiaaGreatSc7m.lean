/-
  OUR OWN TEXT. The model's CheckRules.
-/
import Derived.Test.YtmmdlgjmplddiaaGreatSc5m
import Derived.Test.YtmmdlgjmplddiaaGreatHbm
namespace Go.Proofs.YtmmdlgjmplddiaaGreat
open Go.RowKit
attribute [local go_sem ↓] Go.wp_at_zero Go.wp_at_succ
theorem zli {p:Prop} (h:p):Hid p:=h
def Rz (b:Nat) (w:World):Prop:=(∀ j,j<3→w.cell? ⟨b,j,none⟩=some (.int .i64 0))∧(∀ j,w.frozen? ⟨b,j,none⟩=false)∧b<w.heap.size
theorem Rz.below {b:Nat}{w w':World} (h:Rz b w) (hb:Below w.heap.size w w'):Rz b w':=
 ⟨fun j hj=>zaa hb (h.1 j hj),fun j=>by rw [(bcell hb).2 _ _ h.2.2];exact h.2.1 j,Nat.lt_of_lt_of_le h.2.2 hb.size⟩
theorem Rz.get {b:Nat}{w:World} (h:Rz b w):w.cell? ⟨b,0,none⟩=some (.int .i64 0)∧w.cell? ⟨b,1,none⟩=some (.int .i64 0)∧w.cell? ⟨b,2,none⟩=some (.int .i64 0)∧w.frozen? ⟨b,0,none⟩=false∧w.frozen? ⟨b,1,none⟩=false∧w.frozen? ⟨b,2,none⟩=false:=
 ⟨h.1 0 (by omega),h.1 1 (by omega),h.1 2 (by omega),h.2.1 0,h.2.1 1,h.2.1 2⟩
theorem Rz.made (w:World) (t:TypeId):Rz w.heap.size (w.alloc (.cells #[.int .i64 0,.int .i64 0,.int .i64 0] t)):=
 ⟨fun j hj=>by (match j,hj with | 0,_=>simp [go_sem] | 1,_=>simp [go_sem] | 2,_=>simp [go_sem]),fun j=>by simp [go_sem],by simp⟩
set_option maxHeartbeats 3200000 in
set_option maxRecDepth 100000 in
theorem zff (a:Option Addr) (c:Nat) (rs:List Ru) (q:Option Nat) (w:World) (hv:zcy q w a rs) (hc:rs.length≤c) (hle:zbs Ru.le 1048576 rs) (ho:∀ x∈rs,zd0 x.exprs) :
  Calls Tryz.prog 81 #[.slice a rs.length c] w fun e w'=>e=.returned (ckV (chk rs))∧Below w.heap.size w w':=by
 obtain ⟨hl,hle⟩:=hle
 have B0:∀ o,Below w.heap.size w (w.alloc o):=fun o=>(Below.refl _ _).alloc (Nat.le_refl _) _
 by_cases h16:16<rs.length
 ·have h16':(16:Int)<(rs.length:Int):=by omega
  have HC:Hid (chk rs=(1,0,0)):=show chk rs=_ from by unfold chk;rw [if_neg (by omega)]
  go_enter Tryz.func81,Tryz.ntmps81
  go_wp2
  refine bodyPost_ret (v:=.agg #[.int .i64 1,.int .i64 0,.int .i64 0]) (by simp [results,Tryz.results81,go_sem]) rfl ⟨by rw [HC.out];rfl,B0 _⟩
 ·have h16':¬ (16:Int)<(rs.length:Int):=by omega
  have HC:Hid (chk rs=zcD [] rs 0):=show chk rs=_ from by unfold chk;rw [if_pos (by omega)]
  have HLE:=zaW hle
  have HOO:=zaW ho
  clear hle ho
  go_enter Tryz.func81,Tryz.ntmps81
  go_wp2
  go_loopw [17] (fun i wr=>∃ (k:Nat),k≤rs.length∧i=.int .i64 k∧chk rs=zcD (rs.take k) (rs.drop k) k∧Rz w.heap.size wr∧Below w.heap.size w wr) (fun i _=>rs.length - (intOf i).toNat)
  case atStart=>exact ⟨0,by omega,rfl,by rw [HC.out];rfl,Rz.made _ _,B0 _⟩
  case round=>
   obtain ⟨k,hk,rfl,hG,hrz,hb⟩:=hrel
   have HG:=zaW hG
   have HRZ:=zaW hrz
   clear hG
   by_cases hkl:k<rs.length
   ·obtain ⟨x,hxk⟩:∃ x,rs[k]?=some x:=⟨rs[k],by simp [hkl]⟩
    have hv':=hv.below hb
    obtain ⟨b,o,a_pats,c_pats,a_exprs,c_exprs,a_acts,c_acts,rfl,hq,c0,c1,c2,c3,c4,h_pats,h_exprs,h_acts,hcap⟩:=hv'.get hxk
    have hxl:=HLE.out x (List.mem_of_getElem? hxk)
    have hxo:=HOO.out x (List.mem_of_getElem? hxk)
    have HD:Hid (rs.drop k=x :: rs.drop (k+1)):=zan hxk
    have HT:Hid (rs.take (k+1)=rs.take k ++ [x]):=zbV rs k x hxk
    obtain ⟨wo,rfl⟩:∃ u,u=wr:=⟨wr,rfl⟩
    have B1:∀ o,Below wo.heap.size wo (wo.alloc o):=fun o=>(Below.refl _ _).alloc (Nat.le_refl _) _
    have HP:=zaW h_pats
    have HE:=zaW h_exprs
    have HA:=zaW h_acts
    have hSH:=zaW (fun w' (h0:Below wo.heap.size wo w')=>zih x a_pats c_pats a_exprs c_exprs a_acts c_acts (q:=q) w' (h_pats.below h0) (h_exprs.below h0) (h_acts.below h0) hxl hxo)
    have hbx0:=zcf.made wo 35 x a_pats c_pats a_exprs c_exprs a_acts c_acts
    have HBX0:=zaW hbx0
    clear h_pats h_exprs h_acts hv' hrz hbx0 hq hcap
    cases hshape:shape x with
    | some i=>
     rw [hshape] at hSH
     simp only [zeI] at hSH
     have HX:Hid (chk rs=(1,(k:Int),(i:Int))):=show chk rs=_ from by
      have h1:chk1 (rs.take k) x=(1,(i:Int)):=by unfold chk1;rw [hshape]
      rw [HG.out,HD.out,zbo,h1,if_neg (by simp)]
     have hi0:(0:Int)≤(i:Int):=by omega
     go_wp2_with (go_at_call 116;refine (hSH.out _ (B1 _)).mono ?_;rintro e w1 ⟨rfl,hb1⟩;obtain ⟨y0,y1,y2,f0,f1,f2⟩:=((HRZ.out.below (B1 _)).below hb1).get)
     have hW:Below wo.heap.size wo w1:=(B1 _).trans (hb1.mono (by simp))
     have hbW:=hb.trans (hW.mono hb.size)
     refine bodyPost_ret (v:=.agg #[.int .i64 1,.int .i64 (k:Int),.int .i64 (i:Int)]) (by simp [results,Tryz.results81,go_sem,y0,y1,y2]) rfl ⟨by rw [HX.out];rfl,?_⟩
     exact ((hbW.setCell (Nat.le_refl _) _).setCell (Nat.le_refl _) _).setCell (Nat.le_refl _) _
    | none=>
     rw [hshape] at hSH
     simp only [zeI] at hSH
     have z0:(0:Int)≤(k:Int):=by omega
     have z1:(k:Int)≤(c:Int):=by omega
     go_wp2_with (go_at_call 116;refine (hSH.out _ (B1 _)).mono ?_;rintro e w1 ⟨rfl,hb1⟩)
     have hW1:Below wo.heap.size wo w1:=(B1 _).trans (hb1.mono (by simp))
     have hbx1:=HBX0.out.below hb1
     have hrz1:=(HRZ.out.below (B1 _)).below hb1
     have hb1':=hb.trans (hW1.mono hb.size)
     clear hb1
     go_loopw [33] (fun i wr=>∃ (j:Nat),j≤k∧i=.int .i64 j∧(rs.take k).any (fun o=>decide (o.name=x.name))=((rs.take k).drop j).any (fun o=>decide (o.name=x.name))∧zcf wr wo.heap.size x a_pats c_pats a_exprs c_exprs a_acts c_acts∧Rz w.heap.size wr∧Below wo.heap.size wo wr) (fun i _=>k - (intOf i).toNat)
     case atStart=>exact ⟨0,by omega,rfl,rfl,hbx1,hrz1,hW1⟩
     case round=>
      clear hW1 hbx1 hrz1 hb1' c0 c1 c2 c3 c4
      obtain ⟨j,hj,rfl,hN,hbox,hrz,hbo⟩:=hrel
      have HN:=zaW hN
      have HBX:=zaW hbox
      have HRZ2:=zaW hrz
      clear hN
      have hbw:Below w.heap.size w wr:=hb.trans (hbo.mono hb.size)
      have hlen:(rs.take k).length=k:=by simp;omega
      by_cases hjl:j<k
      ·obtain ⟨y,hyk⟩:∃ y,(rs.take k)[j]?=some y:=⟨(rs.take k)[j]'(by omega),List.getElem?_eq_getElem _⟩
       have hpre:zcy q wr (some ⟨b,o,none⟩) (rs.take k):=zaJ.take (hv.below hbw) k
       obtain ⟨b2,o2,a1,k1,a2,k2,a3,k3,ee,hq,c0,c1,c2,c3,c4,_,_,_⟩:=hpre.get hyk
       cases ee
       have HDJ:Hid ((rs.take k).drop j=y :: (rs.take k).drop (j+1)):=zan hyk
       have R1:∀ o,Below wr.heap.size wr (wr.alloc o):=fun o=>(Below.refl _ _).alloc (Nat.le_refl _) _
       have q0':∀ o,(wr.alloc o).cell? ⟨wo.heap.size,0,none⟩=some (.string x.name):=fun o=>zaa (R1 o) hbox.1
       have hws:wo.heap.size<wr.heap.size:=zgr hbox.1
       have v1:(j:Int)<(k:Int):=by omega
       have v0:(0:Int)≤(j:Int):=by omega
       clear hpre hbox hlen
       cases e1:(y.name.toList==x.name.toList)
       ·have HX:Hid ((rs.take k).any (fun o=>decide (o.name=x.name))=((rs.take k).drop (j+1)).any (fun o=>decide (o.name=x.name))):=show _=_ from by
         rw [zaM] at e1
         rw [HN.out,HDJ.out,List.any_cons,e1]
         rfl
        clear hrz
        go_wp2
        go_roundw
        case rel=>exact ⟨j+1,by omega,by go_num,HX.out,HBX.out.below (R1 _),HRZ2.out.below (R1 _),hbo.alloc hbo.size _⟩
        case measure=>simp [intOf];omega
       ·have HX:Hid (chk rs=(2,(k:Int),0)):=show chk rs=_ from by
         have h1:chk1 (rs.take k) x=(2,0):=by
          rw [zaM] at e1
          unfold chk1
          rw [hshape]
          simp only
          rw [HN.out,HDJ.out,List.any_cons,e1]
          rfl
         rw [HG.out,HD.out,zbo,h1,if_neg (by simp)]
        have yy:=fun o=>((HRZ2.out.below (R1 o)).get)
        have y0:=fun o=>(yy o).1
        have y1:=fun o=>(yy o).2.1
        have y2:=fun o=>(yy o).2.2.1
        have f0:=fun o=>(yy o).2.2.2.1
        have f1:=fun o=>(yy o).2.2.2.2.1
        have f2:=fun o=>(yy o).2.2.2.2.2
        clear yy hrz
        go_wp2
        refine bodyPost_ret (v:=.agg #[.int .i64 2,.int .i64 (k:Int),.int .i64 0]) (by simp [results,Tryz.results81,go_sem,y0,y1,y2]) rfl ⟨by rw [HX.out];rfl,?_⟩
        exact (((hbw.alloc hbw.size _).setCell (Nat.le_refl _) _).setCell (Nat.le_refl _) _).setCell (Nat.le_refl _) _
      ·have HANY:Hid ((rs.take k).any (fun o=>decide (o.name=x.name))=false):=show _=_ from by rw [HN.out,List.drop_eq_nil_of_le (by omega)];rfl
       have hpos:positives x.pats≤x.pats.length:=List.countP_le_length
       obtain ⟨hp6,ha8,he60,hpt,hfull,hargs⟩:=zed hshape
       have hPO:=zli (fun w' (h0:Below wo.heap.size wo w')=>zfI x a_pats c_pats a_exprs c_exprs a_acts c_acts (q:=q) w' (HP.out.below h0) (by omega))
       have hSC:=zli (fun w' (h0:Below wo.heap.size wo w')=>zhY x a_pats c_pats a_exprs c_exprs a_acts c_acts (q:=q) w' (HP.out.below h0) (HE.out.below h0) (HA.out.below h0) hxl hshape)
       have hj':¬ (j:Int)<(k:Int):=by omega
       obtain ⟨q0,q1,q2,q3,q4⟩:=hbox
       clear hrz hpt hfull hargs hSH HBX0 hlen
       by_cases hr:1≤positives x.pats∧positives x.pats≤3
       ·have HC1:Hid (chk1 (rs.take k) x=match scope x with | some i=>(4,(i:Int)) | none=>match refs x with | some i=>(5,(i:Int)) | none=>(0,0)):=show chk1 (rs.take k) x=_ from by
         unfold chk1
         rw [hshape]
         simp only
         rw [HANY.out,if_neg (by decide),if_pos hr]
         cases scope x with
         | some i=>rfl
         | none=>cases refs x <;> rfl
        have r0:¬ (positives x.pats:Int)<1:=by omega
        have r1:¬ (3:Int)<(positives x.pats:Int):=by omega
        cases hsc:scope x with
        | some i=>
         rw [hsc] at hSC HC1
         simp only [zeI] at hSC
         have hi0:(0:Int)≤(i:Int):=by omega
         have HX:Hid (chk rs=(4,(k:Int),(i:Int))):=show chk rs=_ from by rw [HG.out,HD.out,zbo,HC1.out,if_neg (by simp)]
         go_wp2_with (first | (go_at_call 117;refine (hPO.out _ hbo).mono ?_;rintro e w2 ⟨rfl,hb2⟩;obtain ⟨s0,s1,s2,s3,s4⟩:=HBX.out.below hb2;have hb2':=hbo.trans (hb2.mono hbo.size);obtain ⟨y0,y1,y2,f0,f1,f2⟩:=(HRZ2.out.below hb2).get) | (go_at_call 118;refine (hSC.out _ hb2').mono ?_;rintro e w3 ⟨rfl,hb3⟩;obtain ⟨t0,t1,t2,t3,t4⟩:=(HBX.out.below hb2).below hb3;have hb3':=hb2'.trans (hb3.mono hb2'.size);obtain ⟨v0,v1,v2,g0,g1,g2⟩:=((HRZ2.out.below hb2).below hb3).get) | fail)
         have hbW:=hb.trans (hb3'.mono hb.size)
         refine bodyPost_ret (v:=.agg #[.int .i64 4,.int .i64 (k:Int),.int .i64 (i:Int)]) (by simp [results,Tryz.results81,go_sem,v0,v1,v2]) rfl ⟨by rw [HX.out];rfl,?_⟩
         exact ((hbW.setCell (Nat.le_refl _) _).setCell (Nat.le_refl _) _).setCell (Nat.le_refl _) _
        | none=>
         rw [hsc] at hSC HC1
         simp only [zeI] at hSC
         simp only at HC1
         go_wp2_with (first | (go_at_call 117;refine (hPO.out _ hbo).mono ?_;rintro e w2 ⟨rfl,hb2⟩;obtain ⟨s0,s1,s2,s3,s4⟩:=HBX.out.below hb2;have hb2':=hbo.trans (hb2.mono hbo.size);obtain ⟨y0,y1,y2,f0,f1,f2⟩:=(HRZ2.out.below hb2).get) | (go_at_call 118;refine (hSC.out _ hb2').mono ?_;rintro e w3 ⟨rfl,hb3⟩;obtain ⟨t0,t1,t2,t3,t4⟩:=(HBX.out.below hb2).below hb3;have hb3':=hb2'.trans (hb3.mono hb2'.size);obtain ⟨v0,v1,v2,g0,g1,g2⟩:=((HRZ2.out.below hb2).below hb3).get) | fail)
         have hbx3:=(HBX.out.below hb2).below hb3
         have hrz3:=(HRZ2.out.below hb2).below hb3
         clear q0 q1 q2 q3 q4 s0 s1 s2 s3 s4 t0 t1 t2 t3 t4 y0 y1 y2 f0 f1 f2 v0 v1 v2 g0 g1 g2 hb2 hb3 hb2' hPO hSC r0 r1 hbw hbo
         go_loopw [65] (fun i wr'=>∃ (m:Nat),m≤x.acts.length∧i=.int .i64 m∧refs x=zaD (zbi (positives x.pats)) (x.acts.drop m) (x.pats.length+1+m)∧zcf wr' wo.heap.size x a_pats c_pats a_exprs c_exprs a_acts c_acts∧Rz w.heap.size wr'∧Below wo.heap.size wo wr') (fun i _=>x.acts.length - (intOf i).toNat)
         case atStart=>exact ⟨0,by omega,rfl,rfl,hbx3,hrz3,hb3'⟩
         case round=>
          clear hbx3 hrz3 hb3'
          obtain ⟨m,hm,rfl,hM,hbox3,hrz3,hbo3⟩:=hrel
          have HM:=zli hM
          have HBX3:=zli hbox3
          have HRZ3:=zli hrz3
          clear hM hrz3
          have hbw3:Below w.heap.size w wr:=hb.trans (hbo3.mono hb.size)
          by_cases hml:m<x.acts.length
          ·obtain ⟨y,hyk⟩:∃ y,x.acts[m]?=some y:=⟨x.acts[m],by simp [hml]⟩
           obtain ⟨b4,o4,a_args,c_args,ee,hq,c0,c1,c2,c3,h_args⟩:=(HA.out.below hbo3).get hyk
           subst ee
           have HDM:Hid (x.acts.drop m=y :: x.acts.drop (m+1)):=zan hyk
           have R1:∀ o,Below wr.heap.size wr (wr.alloc o):=fun o=>(Below.refl _ _).alloc (Nat.le_refl _) _
           have q2':=fun o=>zaa (R1 o) hbox3.2.2.1
           clear hbox3
           by_cases hkd:y.kind=2∨y.kind=3
           ·rcases hkd with hkd | hkd
            all_goals rw [hkd] at c0
            ·by_cases k1:y.k<1
             ·have HX:Hid (chk rs=(5,(k:Int),((x.pats.length+1+m:Nat):Int))):=show chk rs=_ from by
               have h1:refs x=some (x.pats.length+1+m):=by rw [HM.out,HDM.out,zaA,show zbi (positives x.pats) y=false by simp [zbi,hkd];omega];rfl
               rw [HG.out,HD.out,zbo,HC1.out,h1,if_neg (by simp)]
              have yy:=fun o=>((HRZ3.out.below (R1 o)).get)
              have y0:=fun o=>(yy o).1
              have y1:=fun o=>(yy o).2.1
              have y2:=fun o=>(yy o).2.2.1
              have f0:=fun o=>(yy o).2.2.2.1
              have f1:=fun o=>(yy o).2.2.2.2.1
              have f2:=fun o=>(yy o).2.2.2.2.2
              clear yy
              go_wp2
              refine bodyPost_ret (v:=.agg #[.int .i64 5,.int .i64 (k:Int),.int .i64 ((x.pats.length:Int)+(m:Int)+1)]) (by simp [results,Tryz.results81,go_sem,y0,y1,y2]) rfl ⟨by rw [HX.out];simp [ckV];omega,?_⟩
              exact (((hbw3.alloc hbw3.size _).setCell (Nat.le_refl _) _).setCell (Nat.le_refl _) _).setCell (Nat.le_refl _) _
             ·by_cases k2:(positives x.pats:Int)<y.k
              ·have HX:Hid (chk rs=(5,(k:Int),((x.pats.length+1+m:Nat):Int))):=show chk rs=_ from by
                have h1:refs x=some (x.pats.length+1+m):=by rw [HM.out,HDM.out,zaA,show zbi (positives x.pats) y=false by simp [zbi,hkd];omega];rfl
                rw [HG.out,HD.out,zbo,HC1.out,h1,if_neg (by simp)]
               have yy:=fun o=>((HRZ3.out.below (R1 o)).get)
               have y0:=fun o=>(yy o).1
               have y1:=fun o=>(yy o).2.1
               have y2:=fun o=>(yy o).2.2.1
               have f0:=fun o=>(yy o).2.2.2.1
               have f1:=fun o=>(yy o).2.2.2.2.1
               have f2:=fun o=>(yy o).2.2.2.2.2
               clear yy
               go_wp2
               refine bodyPost_ret (v:=.agg #[.int .i64 5,.int .i64 (k:Int),.int .i64 ((x.pats.length:Int)+(m:Int)+1)]) (by simp [results,Tryz.results81,go_sem,y0,y1,y2]) rfl ⟨by rw [HX.out];simp [ckV];omega,?_⟩
               exact (((hbw3.alloc hbw3.size _).setCell (Nat.le_refl _) _).setCell (Nat.le_refl _) _).setCell (Nat.le_refl _) _
              ·have HX:Hid (refs x=zaD (zbi (positives x.pats)) (x.acts.drop (m+1)) (x.pats.length+1+(m+1))):=show refs x=_ from by rw [HM.out,HDM.out,zaA,show zbi (positives x.pats) y=true by simp [zbi];omega];rfl
               go_wp2
               go_roundw
               case rel=>exact ⟨m+1,by omega,by go_num,HX.out,HBX3.out.below (R1 _),HRZ3.out.below (R1 _),hbo3.alloc hbo3.size _⟩
               case measure=>simp [intOf];omega
            ·by_cases k1:y.k<1
             ·have HX:Hid (chk rs=(5,(k:Int),((x.pats.length+1+m:Nat):Int))):=show chk rs=_ from by
               have h1:refs x=some (x.pats.length+1+m):=by rw [HM.out,HDM.out,zaA,show zbi (positives x.pats) y=false by simp [zbi,hkd];omega];rfl
               rw [HG.out,HD.out,zbo,HC1.out,h1,if_neg (by simp)]
              have yy:=fun o=>((HRZ3.out.below (R1 o)).get)
              have y0:=fun o=>(yy o).1
              have y1:=fun o=>(yy o).2.1
              have y2:=fun o=>(yy o).2.2.1
              have f0:=fun o=>(yy o).2.2.2.1
              have f1:=fun o=>(yy o).2.2.2.2.1
              have f2:=fun o=>(yy o).2.2.2.2.2
              clear yy
              go_wp2
              refine bodyPost_ret (v:=.agg #[.int .i64 5,.int .i64 (k:Int),.int .i64 ((x.pats.length:Int)+(m:Int)+1)]) (by simp [results,Tryz.results81,go_sem,y0,y1,y2]) rfl ⟨by rw [HX.out];simp [ckV];omega,?_⟩
              exact (((hbw3.alloc hbw3.size _).setCell (Nat.le_refl _) _).setCell (Nat.le_refl _) _).setCell (Nat.le_refl _) _
             ·by_cases k2:(positives x.pats:Int)<y.k
              ·have HX:Hid (chk rs=(5,(k:Int),((x.pats.length+1+m:Nat):Int))):=show chk rs=_ from by
                have h1:refs x=some (x.pats.length+1+m):=by rw [HM.out,HDM.out,zaA,show zbi (positives x.pats) y=false by simp [zbi,hkd];omega];rfl
                rw [HG.out,HD.out,zbo,HC1.out,h1,if_neg (by simp)]
               have yy:=fun o=>((HRZ3.out.below (R1 o)).get)
               have y0:=fun o=>(yy o).1
               have y1:=fun o=>(yy o).2.1
               have y2:=fun o=>(yy o).2.2.1
               have f0:=fun o=>(yy o).2.2.2.1
               have f1:=fun o=>(yy o).2.2.2.2.1
               have f2:=fun o=>(yy o).2.2.2.2.2
               clear yy
               go_wp2
               refine bodyPost_ret (v:=.agg #[.int .i64 5,.int .i64 (k:Int),.int .i64 ((x.pats.length:Int)+(m:Int)+1)]) (by simp [results,Tryz.results81,go_sem,y0,y1,y2]) rfl ⟨by rw [HX.out];simp [ckV];omega,?_⟩
               exact (((hbw3.alloc hbw3.size _).setCell (Nat.le_refl _) _).setCell (Nat.le_refl _) _).setCell (Nat.le_refl _) _
              ·have HX:Hid (refs x=zaD (zbi (positives x.pats)) (x.acts.drop (m+1)) (x.pats.length+1+(m+1))):=show refs x=_ from by rw [HM.out,HDM.out,zaA,show zbi (positives x.pats) y=true by simp [zbi];omega];rfl
               go_wp2
               go_roundw
               case rel=>exact ⟨m+1,by omega,by go_num,HX.out,HBX3.out.below (R1 _),HRZ3.out.below (R1 _),hbo3.alloc hbo3.size _⟩
               case measure=>simp [intOf];omega
           ·have hk2:¬ y.kind=2:=fun h=>hkd (.inl h)
            have hk3:¬ y.kind=3:=fun h=>hkd (.inr h)
            have HX:Hid (refs x=zaD (zbi (positives x.pats)) (x.acts.drop (m+1)) (x.pats.length+1+(m+1))):=show refs x=_ from by rw [HM.out,HDM.out,zaA,show zbi (positives x.pats) y=true by simp [zbi,hk2,hk3]];rfl
            go_wp2
            go_roundw
            case rel=>exact ⟨m+1,by omega,by go_num,HX.out,HBX3.out.below (R1 _),HRZ3.out.below (R1 _),hbo3.alloc hbo3.size _⟩
            case measure=>simp [intOf];omega
          ·have h1:refs x=none:=by rw [HM.out,List.drop_eq_nil_of_le (by omega)];rfl
           have HX:Hid (chk rs=zcD (rs.take (k+1)) (rs.drop (k+1)) (k+1)):=show chk rs=_ from by rw [HG.out,HD.out,zbo,HC1.out,h1,if_pos rfl,HT.out]
           clear hbox3 h1
           go_wp2
           go_roundw
           case rel=>exact ⟨k+1,by omega,by go_num,HX.out,HRZ3.out,hbw3⟩
           case measure=>simp [intOf];omega
       ·have HC1:Hid (chk1 (rs.take k) x=(3,0)):=show chk1 (rs.take k) x=_ from by
         unfold chk1
         rw [hshape]
         simp only
         rw [HANY.out,if_neg (by decide),if_neg hr]
        have HX:Hid (chk rs=(3,(k:Int),0)):=show chk rs=_ from by rw [HG.out,HD.out,zbo,HC1.out,if_neg (by simp)]
        by_cases r0:(positives x.pats:Int)<1
        ·go_wp2_with (first | (go_at_call 117;refine (hPO.out _ hbo).mono ?_;rintro e w2 ⟨rfl,hb2⟩;obtain ⟨s0,s1,s2,s3,s4⟩:=HBX.out.below hb2;have hb2':=hbo.trans (hb2.mono hbo.size);obtain ⟨y0,y1,y2,f0,f1,f2⟩:=(HRZ2.out.below hb2).get) | fail)
         have hbW:=hb.trans (hb2'.mono hb.size)
         refine bodyPost_ret (v:=.agg #[.int .i64 3,.int .i64 (k:Int),.int .i64 0]) (by simp [results,Tryz.results81,go_sem,y0,y1,y2]) rfl ⟨by rw [HX.out];rfl,?_⟩
         exact ((hbW.setCell (Nat.le_refl _) _).setCell (Nat.le_refl _) _).setCell (Nat.le_refl _) _
        ·have r1:(3:Int)<(positives x.pats:Int):=by omega
         go_wp2_with (first | (go_at_call 117;refine (hPO.out _ hbo).mono ?_;rintro e w2 ⟨rfl,hb2⟩;obtain ⟨s0,s1,s2,s3,s4⟩:=HBX.out.below hb2;have hb2':=hbo.trans (hb2.mono hbo.size);obtain ⟨y0,y1,y2,f0,f1,f2⟩:=(HRZ2.out.below hb2).get) | fail)
         have hbW:=hb.trans (hb2'.mono hb.size)
         refine bodyPost_ret (v:=.agg #[.int .i64 3,.int .i64 (k:Int),.int .i64 0]) (by simp [results,Tryz.results81,go_sem,y0,y1,y2]) rfl ⟨by rw [HX.out];rfl,?_⟩
         exact ((hbW.setCell (Nat.le_refl _) _).setCell (Nat.le_refl _) _).setCell (Nat.le_refl _) _
   ·have HX:Hid (chk rs=(0,0,0)):=show chk rs=_ from by rw [HG.out,List.drop_eq_nil_of_le (by omega)];rfl
    obtain ⟨y0,y1,y2,f0,f1,f2⟩:=hrz.get
    go_wp2
    refine bodyPost_ret (v:=.agg #[.int .i64 0,.int .i64 0,.int .i64 0]) (by simp [results,Tryz.results81,go_sem,y0,y1,y2]) rfl ⟨by rw [HX.out];rfl,?_⟩
    exact ((hb.setCell (Nat.le_refl _) _).setCell (Nat.le_refl _) _).setCell (Nat.le_refl _) _
end Go.Proofs.YtmmdlgjmplddiaaGreat
