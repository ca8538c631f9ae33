/-
  OUR OWN TEXT. The Alpha of a pattern: the program's side.
-/
import Derived.Test.YtmmdlgjmplddiaaGreatKay
import Derived.Test.YtmmdlgjmplddiaaGreatKat
import Derived.Test.YtmmdlgjmplddiaaGreatHwm
import Derived.Deep.RegionHeld3
import Derived.Deep.DrawnRows
namespace Go.Proofs.YtmmdlgjmplddiaaGreat
open Go.RowKit
attribute [local go_sem ↓] Go.wp_at_zero Go.wp_at_succ
theorem zb9 {w w':World}{ob:Option Nat}{b o:Nat} (h:w.grownBy w' ob) (hne:ob≠some b) (hl:b<w.heap.size):w'.cell? ⟨b,o,none⟩=w.cell? ⟨b,o,none⟩:=by
 unfold World.cell?
 rw [h.block b hl (by first | exact hne | exact fun e=>hne e | exact fun e=>hne e.symm)]
set_option maxHeartbeats 6400000 in
theorem ziq (p:Pt) (a_terms:Option Addr) (c_terms:Nat) {q:Option Nat} (w:World) (h_terms:zcl q w a_terms p.terms) (hc:p.cls.size≤maxLen) (hs:zbu Tm.le maxLen p.terms) (hl:p.terms.length≤1048576) (hcp:p.terms.length≤c_terms) :
  Calls Tryz.prog 67 #[.agg #[.bool p.neg,.string p.cls,.slice a_terms p.terms.length c_terms]] w fun e w'=>
   (∃ a' c',e=.returned (.agg #[.string (zaE p).cls,.int .i64 (zaE p).arity,.slice a' (zaE p).tests.length c'])∧w'.ownsRow w.heap.size 111 6 (.slice a' (zaE p).tests.length c') (zaE p).tests.length ((zaE p).tests.flatMap zat))∧Below w.heap.size w w':=by
 have B2:∀ o o1,Below w.heap.size w ((w.alloc o).alloc o1):=fun o o1=>((Below.refl _ _).alloc (Nat.le_refl _) _).alloc (by simp) _
 have hGP:=hidO (fun w' h=>zeE p a_terms c_terms (q:=q) w' h hc hs hl)
 cases hg:gPt p
 ·rw [hg] at hGP
  have HA:Hid (zaE p=⟨⟨#[]⟩,0,[]⟩):=show zaE p=_ from by simp [zaE,hg]
  go_enter Tryz.func67,Tryz.ntmps67
  go_wp2_with (go_at_call 103;refine (hGP.out _ (h_terms.below (B2 _ _))).mono ?_;rintro e w1 ⟨rfl,hb1⟩;have hr:=((C3.made (w.alloc (.cells #[.bool p.neg,.string p.cls,.slice a_terms p.terms.length c_terms] 38)) 57 (.string ⟨#[]⟩) (.int .i64 0) (.slice none 0 0)).below hb1);simp only [World.size_alloc] at hr;obtain ⟨r0,r1,r2,f0,f1,f2⟩:=hr)
  have hB1:Below w.heap.size w w1:=(B2 _ _).trans (hb1.mono (by simp;omega))
  refine bodyPost_ret (v:=.agg #[.string ⟨#[]⟩,.int .i64 0,.slice none 0 0]) (by simp [results,Tryz.results67,go_sem,r0,r1,r2]) rfl ⟨⟨none,0,by rw [HA.out];rfl,by rw [HA.out];exact World.ownsRow_nil _ _ _ _⟩,?_⟩
  exact ((hB1.setCell (by simp) _).setCell (by simp) _).setCell (by simp) _
 ·rw [hg] at hGP
  have HA:Hid (zaE p=⟨p.cls,(p.terms.length:Int),zah p.terms p.terms.length⟩):=show zaE p=_ from by simp [zaE,hg]
  have h6:=zi8 hg
  have HGT:=hidO (fun i t ht=>zk6 hg (i:=i) (t:=t) ht)
  clear hg
  go_enter Tryz.func67,Tryz.ntmps67
  go_wp2_with (go_at_call 103;refine (hGP.out _ (h_terms.below (B2 _ _))).mono ?_;rintro e w1 ⟨rfl,hb1⟩;have hr:=((C3.made (w.alloc (.cells #[.bool p.neg,.string p.cls,.slice a_terms p.terms.length c_terms] 38)) 57 (.string ⟨#[]⟩) (.int .i64 0) (.slice none 0 0)).below hb1);simp only [World.size_alloc] at hr;have hp:=(((C3.made w 38 (.bool p.neg) (.string p.cls) (.slice a_terms p.terms.length c_terms)).below ((Below.refl _ _).alloc (Nat.le_refl _) _)).below hb1);obtain ⟨p0,p1,p2,_,_,_⟩:=id hp;have p2':∀ o,(w1.alloc o).cell? ⟨w.heap.size,2,none⟩=some (.slice a_terms p.terms.length c_terms):=fun o=>zaa ((Below.refl _ _).alloc (Nat.le_refl _) _) p2)
  have hB1:Below w.heap.size w w1:=(B2 _ _).trans (hb1.mono (by simp;omega))
  have hlt:=hr.lt
  have A1:∀ o,Below w1.heap.size w1 (w1.alloc o):=fun o=>(Below.refl _ _).alloc (Nat.le_refl _) _
  have HR:=hidO hr
  have HP:=hidO hp
  clear hr hp p0 p1 p2 p2'
  go_loopw [20] (fun i wr=>∃ (k:Nat) (a':Option Addr) (c':Nat),k≤p.terms.length∧i=.int .i64 k∧C3 wr w1.heap.size (.string p.cls) (.int .i64 (p.terms.length:Int)) (.slice a' (zah p.terms k).length c')∧wr.ownsRow (w1.heap.size+1) 111 6 (.slice a' (zah p.terms k).length c') (zah p.terms k).length ((zah p.terms k).flatMap zat)∧Below w1.heap.size w1 wr) (fun i _=>p.terms.length - (intOf i).toNat)
  case atStart=>exact ⟨0,none,0,by omega,rfl,C3.made _ _ _ _ _,World.ownsRow_nil _ _ _ _,A1 _⟩
  case round=>
   obtain ⟨k,a',c',hk,rfl,hout,hown,hb⟩:=hrel
   have HO:=hidO hown
   have HOUT:=hidO hout
   clear hown
   have hol:=hout.lt
   have hBw:Below w.heap.size w wr:=hB1.trans (hb.mono hB1.size)
   have hrz:=HR.out.belowB hb hlt
   have hpp:=HP.out.belowB hb (by omega)
   by_cases hkl:k<p.terms.length
   ·obtain ⟨t,htk⟩:∃ t,p.terms[k]?=some t:=⟨p.terms[k],by simp [hkl]⟩
    obtain ⟨b,o,ea,hq,c0,c1,c2,c3,c4,c5⟩:=(h_terms.below hBw).get htk
    subst ea
    have hgt:=HGT.out k t htk
    have HTS:=hidO (zkc htk)
    have htl:=zec p.terms k
    have R2:∀ o o1,Below wr.heap.size wr ((wr.alloc o).alloc o1):=fun o o1=>((Below.refl _ _).alloc (Nat.le_refl _) _).alloc (by simp) _
    have R1:∀ o,Below wr.heap.size wr (wr.alloc o):=fun o=>(Below.refl _ _).alloc (Nat.le_refl _) _
    have hBD:=hidO (fun w' h=>zis p (some ⟨b,o,none⟩) c_terms (q:=q) k t w' h htk hl hcp)
    have HTM:=hidO (fun o=>(h_terms.below hBw).below (R1 o))
    have hOP:=hidO (fun w'=>zeC t w')
    have p0:∀ o,(wr.alloc o).cell? ⟨w.heap.size,0,none⟩=_:=fun o=>zaa (R1 o) hpp.1
    have p1:∀ o,(wr.alloc o).cell? ⟨w.heap.size,1,none⟩=_:=fun o=>zaa (R1 o) hpp.2.1
    have p2:∀ o,(wr.alloc o).cell? ⟨w.heap.size,2,none⟩=_:=fun o=>zaa (R1 o) hpp.2.2.1
    clear hrz hout hpp R2
    by_cases k0:t.kind=0
    ·have HTN:Hid (zah p.terms (k+1)=zah p.terms k):=show zah p.terms (k+1)=_ from by rw [HTS.out];simp [zbz,k0]
     rw [k0] at c0
     go_wp2_with (go_at_call 104;refine (hBD.out _ (HTM.out _)).mono ?_;rintro e w2 ⟨rfl,hb2⟩;have x0:w2.cell? ⟨wr.heap.size,0,none⟩=some (.int .i64 0):=zaa hb2 (by simp [go_sem]);have x1:w2.cell? ⟨wr.heap.size,1,none⟩=some (.int .i64 t.op):=zaa hb2 (by simp [go_sem]);have x2:w2.cell? ⟨wr.heap.size,2,none⟩=some (.string t.var):=zaa hb2 (by simp [go_sem]);have x3:w2.cell? ⟨wr.heap.size,3,none⟩=some (.int .i64 t.val.kind):=zaa hb2 (by simp [go_sem]);have x4:w2.cell? ⟨wr.heap.size,4,none⟩=some (.int .i64 t.val.num):=zaa hb2 (by simp [go_sem]);have x5:w2.cell? ⟨wr.heap.size,5,none⟩=some (.string t.val.sym):=zaa hb2 (by simp [go_sem]);have hR2:Below wr.heap.size wr w2:=(R1 _).trans (hb2.mono (by simp));have q2:=(HOUT.out.below hR2).2.2.1;have hsz2:=hR2.size)
     go_roundw
     case rel=>exact ⟨k+1,a',c',by omega,by go_num,by rw [HTN.out];exact HOUT.out.below hR2,by rw [HTN.out];exact zeM HO.out hR2,hb.trans (hR2.mono hb.size)⟩
     case measure=>simp [intOf];omega
    ·cases hve:t.var.toList.isEmpty
     ·have HZV:=hidO (zm7 hgt hve)
      cases hea:earlier p.terms k t.var with
      | none=>
       have HTN:Hid (zah p.terms (k+1)=zah p.terms k):=show zah p.terms (k+1)=_ from by rw [HTS.out];simp [zbz,hve,hea]
       rw [hea] at hBD
       simp only [atI] at hBD
       go_wp2_with (go_at_call 104;refine (hBD.out _ (HTM.out _)).mono ?_;rintro e w2 ⟨rfl,hb2⟩;have x0:w2.cell? ⟨wr.heap.size,0,none⟩=some (.int .i64 t.kind):=zaa hb2 (by simp [go_sem]);have x1:w2.cell? ⟨wr.heap.size,1,none⟩=some (.int .i64 t.op):=zaa hb2 (by simp [go_sem]);have x2:w2.cell? ⟨wr.heap.size,2,none⟩=some (.string t.var):=zaa hb2 (by simp [go_sem]);have x3:w2.cell? ⟨wr.heap.size,3,none⟩=some (.int .i64 t.val.kind):=zaa hb2 (by simp [go_sem]);have x4:w2.cell? ⟨wr.heap.size,4,none⟩=some (.int .i64 t.val.num):=zaa hb2 (by simp [go_sem]);have x5:w2.cell? ⟨wr.heap.size,5,none⟩=some (.string t.val.sym):=zaa hb2 (by simp [go_sem]);have hR2:Below wr.heap.size wr w2:=(R1 _).trans (hb2.mono (by simp));have q2:=(HOUT.out.below hR2).2.2.1;have hsz2:=hR2.size)
       go_roundw
       case rel=>exact ⟨k+1,a',c',by omega,by go_num,by rw [HTN.out];exact HOUT.out.below hR2,by rw [HTN.out];exact zeM HO.out hR2,hb.trans (hR2.mono hb.size)⟩
       case measure=>simp [intOf];omega
      | some e0=>
       have HTN:Hid (zah p.terms (k+1)=zah p.terms k ++ [⟨(k:Int),tmOp t,(e0:Int),zVa⟩]):=show zah p.terms (k+1)=_ from by rw [HTS.out];simp [zbz,k0,hve,hea]
       rw [hea] at hBD
       simp only [atI] at hBD
       have e01:((e0:Int) != -1)=true:=by simp
       go_wp2_with (go_at_call 104;refine (hBD.out _ (HTM.out _)).mono ?_;rintro e w2 ⟨rfl,hb2⟩;have x0:w2.cell? ⟨wr.heap.size,0,none⟩=some (.int .i64 t.kind):=zaa hb2 (by simp [go_sem]);have x1:w2.cell? ⟨wr.heap.size,1,none⟩=some (.int .i64 t.op):=zaa hb2 (by simp [go_sem]);have x2:w2.cell? ⟨wr.heap.size,2,none⟩=some (.string t.var):=zaa hb2 (by simp [go_sem]);have x3:w2.cell? ⟨wr.heap.size,3,none⟩=some (.int .i64 t.val.kind):=zaa hb2 (by simp [go_sem]);have x4:w2.cell? ⟨wr.heap.size,4,none⟩=some (.int .i64 t.val.num):=zaa hb2 (by simp [go_sem]);have x5:w2.cell? ⟨wr.heap.size,5,none⟩=some (.string t.val.sym):=zaa hb2 (by simp [go_sem]);have hR2:Below wr.heap.size wr w2:=(R1 _).trans (hb2.mono (by simp));have q2:=(HOUT.out.below hR2).2.2.1;have hsz2:=hR2.size)
       clear c0 c1 c2 c3 c4 c5 p0 p1 p2 hb2 hBD HTM k0 hve hgt hq e01 hea
       refine wp_region_noPanic ?_
       refine wp_region_held_drew (S:=(fun w'=>w'.cell? ⟨wr.heap.size,0,none⟩=some (.int .i64 t.kind)∧w'.cell? ⟨wr.heap.size,1,none⟩=some (.int .i64 t.op)∧w'.cell? ⟨wr.heap.size,2,none⟩=some (.string t.var)∧w'.cell? ⟨wr.heap.size,3,none⟩=some (.int .i64 t.val.kind)∧w'.cell? ⟨wr.heap.size,4,none⟩=some (.int .i64 t.val.num)∧w'.cell? ⟨wr.heap.size,5,none⟩=some (.string t.val.sym))) (by kernel_rfl) ?_ (fun hHeld=>?_)
       ·(try dsimp only)
        (go_split_ands;refine ⟨?_,?_,?_,?_,?_,?_⟩ <;> first | (simp [*];done))
       refine tk 0 hHeld ?_
       (try simp only [pA,pZ,pS])
       refine tk 2 hHeld ?_
       (try simp only [pA,pZ,pS])
       refine tk 3 hHeld ?_
       (try simp only [pA,pZ,pS])
       refine tk 5 hHeld ?_
       (try simp only [pA,pZ,pS])
       refine wpAnyH_ready (rs:=[1,4]) (by kernel_rfl) (by simp) ?_
       refine AllReadyH.cons (o:=?o1) ?ho1 (fun K hK=>?step1) (AllReadyH.cons (o:=?o2) ?ho2 (fun K hK=>?step2) AllReadyH.nil)
       case ho1=>(simp only [List.getElem?_toArray,List.getElem?_cons_succ,List.getElem?_cons_zero];rfl)
       case ho2=>(simp only [List.getElem?_toArray,List.getElem?_cons_succ,List.getElem?_cons_zero];rfl)
       case step1=>
        go_simp
        refine hK.out _ _ ?hS3 (fun hHeld'=>?rest3)
        case hS3=>((try dsimp only);(go_split_ands;refine ⟨?_,?_,?_,?_,?_,?_⟩ <;> first | (simp [*];done)))
        clear hK K
        (first | simp only [pA,pZ,pS] | simp only [pN] | skip)
        clear hHeld
        have hHeld:=hHeld'
        clear hHeld'
        refine wpAnyH_ready (rs:=[4]) (by kernel_rfl) (by simp) ?_
        refine AllReadyH.cons (o:=?o4) ?ho4 (fun K hK=>?step4) AllReadyH.nil
        case ho4=>(simp only [List.getElem?_toArray,List.getElem?_cons_succ,List.getElem?_cons_zero];rfl)
        go_simp
        (go_at_call 105;refine (hOP.out _).mono ?_;rintro e' w4 ⟨rfl,hb4⟩)
        (try go_wp2_with fail)
        refine hK.out _ _ ?hS5 (fun hHeld'=>?rest5)
        case hS5=>((try dsimp only);(go_split_ands;refine ⟨?_,?_,?_,?_,?_,?_⟩ <;> first | exact zaa hb4 (by assumption)))
        clear hK K
        (first | simp only [pA,pZ,pS] | simp only [pN] | skip)
        clear hHeld
        have hHeld:=hHeld'
        clear hHeld'
        have hR4:Below wr.heap.size wr w4:=hR2.drew.trans (hb4.mono (by have:=hR2.size;simp;omega))
        refine tk 6 hHeld ?_
        (try simp only [pA,pZ,pS])
        refine wpAnyH_ready (rs:=[7]) (by kernel_rfl) (by simp) ?_
        refine AllReadyH.cons (o:=?o6) ?ho6 (fun K hK=>?step6) AllReadyH.nil
        case ho6=>(simp only [List.getElem?_toArray,List.getElem?_cons_succ,List.getElem?_cons_zero];rfl)
        go_simp
        refine hK.out _ _ ?hS7 (fun hHeld'=>?rest7)
        case hS7=>((try dsimp only);(go_split_ands;refine ⟨?_,?_,?_,?_,?_,?_⟩ <;> first | (simp [go_sem, *];done) | exact zaa ((Below.refl _ _).alloc (Nat.le_refl _) _) (by assumption)))
        clear hK K
        (first | simp only [pA,pZ,pS] | simp only [pN] | skip)
        clear hHeld
        have hHeld:=hHeld'
        clear hHeld'
        have hR5:=hR4.alloc (by have:=hR4.size;omega) (.cells (zat ⟨(k:Int),tmOp t,(e0:Int),zVa⟩).toArray 111)
        have hsz5:=hR5.size
        refine wpAnyH_ready (rs:=[8]) (by kernel_rfl) (by simp) ?_
        refine AllReadyH.cons (o:=?o8) ?ho8 (fun K hK=>?step8) AllReadyH.nil
        case ho8=>(simp only [List.getElem?_toArray,List.getElem?_cons_succ,List.getElem?_cons_zero];rfl)
        (refine zao (by rfl) (.tmp 51) (.tmp 57) 55 (by rfl) (w1.heap.size+1) 111 _ 6 56 Tryz.underlying55 zep (by rfl) (by omega) _ (zah p.terms k).length _ (by rfl) (zeM HO.out hR5) (some ⟨_,0,none⟩) 1 1 (by rfl) (zat ⟨(k:Int),tmOp t,(e0:Int),zVa⟩) (by rfl) (fun e=>by cases e) (zcd _ _ _ _ (by rfl)) (zbP _) (by unfold maxLen;omega) (by omega) (by simp at hsz5 ⊢;omega) ?_;intro a3 c3' w3 ho3 hg3 hl3;have hne3:(Value.slice a' (zah p.terms k).length c').ownBlock≠some wr.heap.size:=(fun e=>by have:=(HO.out.lt _ e).2;omega);have hW3:Below (w1.heap.size+1) wr w3:=((hR5.mono (by omega)).grown hg3.out (by simp at hsz5 ⊢;omega) (fun g hg=>(HO.out.lt g hg).1));obtain ⟨_,_,m2,_,_,n2⟩:=HOUT.out.belowB hW3 (by omega))
        refine hK.out _ _ ?hS9 (fun hHeld'=>?rest9)
        case hS9=>((try dsimp only);(go_split_ands;refine ⟨?_,?_,?_,?_,?_,?_⟩ <;> first | exact (zb9 hg3.out hne3 (by have:=hR4.size;simp;omega)).trans (by assumption)))
        clear hK K
        (first | simp only [pA,pZ,pS] | simp only [pN] | skip)
        clear hHeld
        have hHeld:=hHeld'
        clear hHeld'
        refine tk 9 hHeld ?_
        (try simp only [pA,pZ,pS])
        refine wpAnyH_ready (rs:=[10]) (by kernel_rfl) (by simp) ?_
        refine AllReadyH.cons (o:=?o10) ?ho10 (fun K hK=>?step10) AllReadyH.nil
        case ho10=>(simp only [List.getElem?_toArray,List.getElem?_cons_succ,List.getElem?_cons_zero];rfl)
        go_simp
        refine hK.out _ _ ?hS11 (fun hHeld'=>?rest11)
        case hS11=>((try dsimp only);(go_split_ands;refine ⟨?_,?_,?_,?_,?_,?_⟩ <;> first | (simp [go_sem, *];done)))
        clear hK K
        (first | simp only [pA,pZ,pS] | simp only [pN] | skip)
        clear hHeld
        have hHeld:=hHeld'
        clear hHeld'
        refine wpAnyH_done (by kernel_rfl) ?_ _
        refine NoPanic.normal ?_
        have ho3':w3.ownsRow (w1.heap.size+1) 111 6 (.slice a3 (zah p.terms (k+1)).length c3') (zah p.terms (k+1)).length ((zah p.terms (k+1)).flatMap zat):=by
         have:=ho3.out
         rw [HTN.out,List.flatMap_append]
         simpa [zat] using this
        have hlen:(zah p.terms (k+1)).length=(zah p.terms k).length+1:=by rw [HTN.out];simp
        obtain ⟨u1,u2,u3⟩:=zge HOUT.out hW3 ho3' hb
        rw [hlen] at u1 u2 u3
        go_wp2
        go_roundw
        case rel=>exact ⟨k+1,a3,c3',by omega,by go_num,by rw [hlen];exact u1,by rw [hlen];exact u2,u3⟩
        case measure=>simp [intOf];omega
       case step2=>
        go_simp
        (go_at_call 105;refine (hOP.out _).mono ?_;rintro e' w4 ⟨rfl,hb4⟩)
        (try go_wp2_with fail)
        refine hK.out _ _ ?hS12 (fun hHeld'=>?rest12)
        case hS12=>((try dsimp only);(go_split_ands;refine ⟨?_,?_,?_,?_,?_,?_⟩ <;> first | exact zaa hb4 (by assumption)))
        clear hK K
        (first | simp only [pA,pZ,pS] | simp only [pN] | skip)
        clear hHeld
        have hHeld:=hHeld'
        clear hHeld'
        have hR4:Below wr.heap.size wr w4:=hR2.drew.trans (hb4.mono (by have:=hR2.size;simp;omega))
        have q4:=zaa hb4 (show w2.drew.cell? ⟨w1.heap.size,2,none⟩=_ from q2)
        have q5:∀ o,(w4.alloc o).cell? ⟨w1.heap.size,2,none⟩=_:=fun o=>zaa ((Below.refl _ _).alloc (Nat.le_refl _) _) q4
        refine tk 6 hHeld ?_
        (try simp only [pA,pZ,pS])
        refine wpAnyH_ready (rs:=[1,7]) (by kernel_rfl) (by simp) ?_
        refine AllReadyH.cons (o:=?o13) ?ho13 (fun K hK=>?step13) (AllReadyH.cons (o:=?o14) ?ho14 (fun K hK=>?step14) AllReadyH.nil)
        case ho13=>(simp only [List.getElem?_toArray,List.getElem?_cons_succ,List.getElem?_cons_zero];rfl)
        case ho14=>(simp only [List.getElem?_toArray,List.getElem?_cons_succ,List.getElem?_cons_zero];rfl)
        case step13=>
         go_simp
         refine hK.out _ _ ?hS15 (fun hHeld'=>?rest15)
         case hS15=>((try dsimp only);(go_split_ands;refine ⟨?_,?_,?_,?_,?_,?_⟩ <;> first | assumption | exact zaa hb4 (by assumption)))
         clear hK K
         (first | simp only [pA,pZ,pS] | simp only [pN] | skip)
         clear hHeld
         have hHeld:=hHeld'
         clear hHeld'
         refine wpAnyH_ready (rs:=[7]) (by kernel_rfl) (by simp) ?_
         refine AllReadyH.cons (o:=?o16) ?ho16 (fun K hK=>?step16) AllReadyH.nil
         case ho16=>(simp only [List.getElem?_toArray,List.getElem?_cons_succ,List.getElem?_cons_zero];rfl)
         go_simp
         refine hK.out _ _ ?hS17 (fun hHeld'=>?rest17)
         case hS17=>((try dsimp only);(go_split_ands;refine ⟨?_,?_,?_,?_,?_,?_⟩ <;> first | (simp [go_sem, *];done) | exact zaa ((Below.refl _ _).alloc (Nat.le_refl _) _) (by assumption)))
         clear hK K
         (first | simp only [pA,pZ,pS] | simp only [pN] | skip)
         clear hHeld
         have hHeld:=hHeld'
         clear hHeld'
         have hR5:=hR4.alloc (by have:=hR4.size;omega) (.cells (zat ⟨(k:Int),tmOp t,(e0:Int),zVa⟩).toArray 111)
         have hsz5:=hR5.size
         refine wpAnyH_ready (rs:=[8]) (by kernel_rfl) (by simp) ?_
         refine AllReadyH.cons (o:=?o18) ?ho18 (fun K hK=>?step18) AllReadyH.nil
         case ho18=>(simp only [List.getElem?_toArray,List.getElem?_cons_succ,List.getElem?_cons_zero];rfl)
         (refine zao (by rfl) (.tmp 51) (.tmp 57) 55 (by rfl) (w1.heap.size+1) 111 _ 6 56 Tryz.underlying55 zep (by rfl) (by omega) _ (zah p.terms k).length _ (by rfl) (zeM HO.out hR5) (some ⟨_,0,none⟩) 1 1 (by rfl) (zat ⟨(k:Int),tmOp t,(e0:Int),zVa⟩) (by rfl) (fun e=>by cases e) (zcd _ _ _ _ (by rfl)) (zbP _) (by unfold maxLen;omega) (by omega) (by simp at hsz5 ⊢;omega) ?_;intro a3 c3' w3 ho3 hg3 hl3;have hne3:(Value.slice a' (zah p.terms k).length c').ownBlock≠some wr.heap.size:=(fun e=>by have:=(HO.out.lt _ e).2;omega);have hW3:Below (w1.heap.size+1) wr w3:=((hR5.mono (by omega)).grown hg3.out (by simp at hsz5 ⊢;omega) (fun g hg=>(HO.out.lt g hg).1));obtain ⟨_,_,m2,_,_,n2⟩:=HOUT.out.belowB hW3 (by omega))
         refine hK.out _ _ ?hS19 (fun hHeld'=>?rest19)
         case hS19=>((try dsimp only);(go_split_ands;refine ⟨?_,?_,?_,?_,?_,?_⟩ <;> first | exact (zb9 hg3.out hne3 (by have:=hR4.size;simp;omega)).trans (by assumption)))
         clear hK K
         (first | simp only [pA,pZ,pS] | simp only [pN] | skip)
         clear hHeld
         have hHeld:=hHeld'
         clear hHeld'
         refine tk 9 hHeld ?_
         (try simp only [pA,pZ,pS])
         refine wpAnyH_ready (rs:=[10]) (by kernel_rfl) (by simp) ?_
         refine AllReadyH.cons (o:=?o20) ?ho20 (fun K hK=>?step20) AllReadyH.nil
         case ho20=>(simp only [List.getElem?_toArray,List.getElem?_cons_succ,List.getElem?_cons_zero];rfl)
         go_simp
         refine hK.out _ _ ?hS21 (fun hHeld'=>?rest21)
         case hS21=>((try dsimp only);(go_split_ands;refine ⟨?_,?_,?_,?_,?_,?_⟩ <;> first | (simp [go_sem, *];done)))
         clear hK K
         (first | simp only [pA,pZ,pS] | simp only [pN] | skip)
         clear hHeld
         have hHeld:=hHeld'
         clear hHeld'
         refine wpAnyH_done (by kernel_rfl) ?_ _
         refine NoPanic.normal ?_
         have ho3':w3.ownsRow (w1.heap.size+1) 111 6 (.slice a3 (zah p.terms (k+1)).length c3') (zah p.terms (k+1)).length ((zah p.terms (k+1)).flatMap zat):=by
          have:=ho3.out
          rw [HTN.out,List.flatMap_append]
          simpa [zat] using this
         have hlen:(zah p.terms (k+1)).length=(zah p.terms k).length+1:=by rw [HTN.out];simp
         obtain ⟨u1,u2,u3⟩:=zge HOUT.out hW3 ho3' hb
         rw [hlen] at u1 u2 u3
         go_wp2
         go_roundw
         case rel=>exact ⟨k+1,a3,c3',by omega,by go_num,by rw [hlen];exact u1,by rw [hlen];exact u2,u3⟩
         case measure=>simp [intOf];omega
        case step14=>
         go_simp
         refine hK.out _ _ ?hS22 (fun hHeld'=>?rest22)
         case hS22=>((try dsimp only);(go_split_ands;refine ⟨?_,?_,?_,?_,?_,?_⟩ <;> first | (simp [go_sem, *];done) | exact zaa ((Below.refl _ _).alloc (Nat.le_refl _) _) (by assumption)))
         clear hK K
         (first | simp only [pA,pZ,pS] | simp only [pN] | skip)
         clear hHeld
         have hHeld:=hHeld'
         clear hHeld'
         refine wpAnyH_ready (rs:=[1]) (by kernel_rfl) (by simp) ?_
         refine AllReadyH.cons (o:=?o23) ?ho23 (fun K hK=>?step23) AllReadyH.nil
         case ho23=>(simp only [List.getElem?_toArray,List.getElem?_cons_succ,List.getElem?_cons_zero];rfl)
         go_simp
         refine hK.out _ _ ?hS24 (fun hHeld'=>?rest24)
         case hS24=>((try dsimp only);(go_split_ands;refine ⟨?_,?_,?_,?_,?_,?_⟩ <;> first | assumption))
         clear hK K
         (first | simp only [pA,pZ,pS] | simp only [pN] | skip)
         clear hHeld
         have hHeld:=hHeld'
         clear hHeld'
         have hR5:=hR4.alloc (by have:=hR4.size;omega) (.cells (zat ⟨(k:Int),tmOp t,(e0:Int),zVa⟩).toArray 111)
         have hsz5:=hR5.size
         refine wpAnyH_ready (rs:=[8]) (by kernel_rfl) (by simp) ?_
         refine AllReadyH.cons (o:=?o25) ?ho25 (fun K hK=>?step25) AllReadyH.nil
         case ho25=>(simp only [List.getElem?_toArray,List.getElem?_cons_succ,List.getElem?_cons_zero];rfl)
         (refine zao (by rfl) (.tmp 51) (.tmp 57) 55 (by rfl) (w1.heap.size+1) 111 _ 6 56 Tryz.underlying55 zep (by rfl) (by omega) _ (zah p.terms k).length _ (by rfl) (zeM HO.out hR5) (some ⟨_,0,none⟩) 1 1 (by rfl) (zat ⟨(k:Int),tmOp t,(e0:Int),zVa⟩) (by rfl) (fun e=>by cases e) (zcd _ _ _ _ (by rfl)) (zbP _) (by unfold maxLen;omega) (by omega) (by simp at hsz5 ⊢;omega) ?_;intro a3 c3' w3 ho3 hg3 hl3;have hne3:(Value.slice a' (zah p.terms k).length c').ownBlock≠some wr.heap.size:=(fun e=>by have:=(HO.out.lt _ e).2;omega);have hW3:Below (w1.heap.size+1) wr w3:=((hR5.mono (by omega)).grown hg3.out (by simp at hsz5 ⊢;omega) (fun g hg=>(HO.out.lt g hg).1));obtain ⟨_,_,m2,_,_,n2⟩:=HOUT.out.belowB hW3 (by omega))
         refine hK.out _ _ ?hS26 (fun hHeld'=>?rest26)
         case hS26=>((try dsimp only);(go_split_ands;refine ⟨?_,?_,?_,?_,?_,?_⟩ <;> first | exact (zb9 hg3.out hne3 (by have:=hR4.size;simp;omega)).trans (by assumption)))
         clear hK K
         (first | simp only [pA,pZ,pS] | simp only [pN] | skip)
         clear hHeld
         have hHeld:=hHeld'
         clear hHeld'
         refine tk 9 hHeld ?_
         (try simp only [pA,pZ,pS])
         refine wpAnyH_ready (rs:=[10]) (by kernel_rfl) (by simp) ?_
         refine AllReadyH.cons (o:=?o27) ?ho27 (fun K hK=>?step27) AllReadyH.nil
         case ho27=>(simp only [List.getElem?_toArray,List.getElem?_cons_succ,List.getElem?_cons_zero];rfl)
         go_simp
         refine hK.out _ _ ?hS28 (fun hHeld'=>?rest28)
         case hS28=>((try dsimp only);(go_split_ands;refine ⟨?_,?_,?_,?_,?_,?_⟩ <;> first | (simp [go_sem, *];done)))
         clear hK K
         (first | simp only [pA,pZ,pS] | simp only [pN] | skip)
         clear hHeld
         have hHeld:=hHeld'
         clear hHeld'
         refine wpAnyH_done (by kernel_rfl) ?_ _
         refine NoPanic.normal ?_
         have ho3':w3.ownsRow (w1.heap.size+1) 111 6 (.slice a3 (zah p.terms (k+1)).length c3') (zah p.terms (k+1)).length ((zah p.terms (k+1)).flatMap zat):=by
          have:=ho3.out
          rw [HTN.out,List.flatMap_append]
          simpa [zat] using this
         have hlen:(zah p.terms (k+1)).length=(zah p.terms k).length+1:=by rw [HTN.out];simp
         obtain ⟨u1,u2,u3⟩:=zge HOUT.out hW3 ho3' hb
         rw [hlen] at u1 u2 u3
         go_wp2
         go_roundw
         case rel=>exact ⟨k+1,a3,c3',by omega,by go_num,by rw [hlen];exact u1,by rw [hlen];exact u2,u3⟩
         case measure=>simp [intOf];omega
     ·have HTN:Hid (zah p.terms (k+1)=zah p.terms k ++ [⟨(k:Int),tmOp t, -1,t.val⟩]):=show zah p.terms (k+1)=_ from by rw [HTS.out];simp [zbz,k0,hve]
      go_wp2_with (go_at_call 104;refine (hBD.out _ (HTM.out _)).mono ?_;rintro e w2 ⟨rfl,hb2⟩;have x0:w2.cell? ⟨wr.heap.size,0,none⟩=some (.int .i64 t.kind):=zaa hb2 (by simp [go_sem]);have x1:w2.cell? ⟨wr.heap.size,1,none⟩=some (.int .i64 t.op):=zaa hb2 (by simp [go_sem]);have x2:w2.cell? ⟨wr.heap.size,2,none⟩=some (.string t.var):=zaa hb2 (by simp [go_sem]);have x3:w2.cell? ⟨wr.heap.size,3,none⟩=some (.int .i64 t.val.kind):=zaa hb2 (by simp [go_sem]);have x4:w2.cell? ⟨wr.heap.size,4,none⟩=some (.int .i64 t.val.num):=zaa hb2 (by simp [go_sem]);have x5:w2.cell? ⟨wr.heap.size,5,none⟩=some (.string t.val.sym):=zaa hb2 (by simp [go_sem]);have hR2:Below wr.heap.size wr w2:=(R1 _).trans (hb2.mono (by simp));have q2:=(HOUT.out.below hR2).2.2.1;have hsz2:=hR2.size)
      clear c0 c1 c2 c3 c4 c5 p0 p1 p2 hb2 hBD HTM k0 hve hgt hq
      refine wp_region_noPanic ?_
      refine wp_region_held_drew (S:=(fun w'=>w'.cell? ⟨wr.heap.size,0,none⟩=some (.int .i64 t.kind)∧w'.cell? ⟨wr.heap.size,1,none⟩=some (.int .i64 t.op)∧w'.cell? ⟨wr.heap.size,2,none⟩=some (.string t.var)∧w'.cell? ⟨wr.heap.size,3,none⟩=some (.int .i64 t.val.kind)∧w'.cell? ⟨wr.heap.size,4,none⟩=some (.int .i64 t.val.num)∧w'.cell? ⟨wr.heap.size,5,none⟩=some (.string t.val.sym))) (by kernel_rfl) ?_ (fun hHeld=>?_)
      ·(try dsimp only)
       (go_split_ands;refine ⟨?_,?_,?_,?_,?_,?_⟩ <;> first | (simp [*];done))
      refine tk 0 hHeld ?_
      (try simp only [pA,pZ,pS])
      refine tk 2 hHeld ?_
      (try simp only [pA,pZ,pS])
      refine tk 3 hHeld ?_
      (try simp only [pA,pZ,pS])
      refine tk 5 hHeld ?_
      (try simp only [pA,pZ,pS])
      refine tk 6 hHeld ?_
      (try simp only [pA,pZ,pS])
      refine wpAnyH_ready (rs:=[1,4]) (by kernel_rfl) (by simp) ?_
      refine AllReadyH.cons (o:=?o29) ?ho29 (fun K hK=>?step29) (AllReadyH.cons (o:=?o30) ?ho30 (fun K hK=>?step30) AllReadyH.nil)
      case ho29=>(simp only [List.getElem?_toArray,List.getElem?_cons_succ,List.getElem?_cons_zero];rfl)
      case ho30=>(simp only [List.getElem?_toArray,List.getElem?_cons_succ,List.getElem?_cons_zero];rfl)
      case step29=>
       go_simp
       refine hK.out _ _ ?hS31 (fun hHeld'=>?rest31)
       case hS31=>((try dsimp only);(go_split_ands;refine ⟨?_,?_,?_,?_,?_,?_⟩ <;> first | (simp [*];done)))
       clear hK K
       (first | simp only [pA,pZ,pS] | simp only [pN] | skip)
       clear hHeld
       have hHeld:=hHeld'
       clear hHeld'
       refine wpAnyH_ready (rs:=[4]) (by kernel_rfl) (by simp) ?_
       refine AllReadyH.cons (o:=?o32) ?ho32 (fun K hK=>?step32) AllReadyH.nil
       case ho32=>(simp only [List.getElem?_toArray,List.getElem?_cons_succ,List.getElem?_cons_zero];rfl)
       go_simp
       (go_at_call 105;refine (hOP.out _).mono ?_;rintro e' w4 ⟨rfl,hb4⟩)
       (try go_wp2_with fail)
       refine hK.out _ _ ?hS33 (fun hHeld'=>?rest33)
       case hS33=>((try dsimp only);(go_split_ands;refine ⟨?_,?_,?_,?_,?_,?_⟩ <;> first | exact zaa hb4 (by assumption)))
       clear hK K
       (first | simp only [pA,pZ,pS] | simp only [pN] | skip)
       clear hHeld
       have hHeld:=hHeld'
       clear hHeld'
       have hR4:Below wr.heap.size wr w4:=hR2.drew.trans (hb4.mono (by have:=hR2.size;simp;omega))
       refine tk 7 hHeld ?_
       (try simp only [pA,pZ,pS])
       refine wpAnyH_ready (rs:=[8]) (by kernel_rfl) (by simp) ?_
       refine AllReadyH.cons (o:=?o34) ?ho34 (fun K hK=>?step34) AllReadyH.nil
       case ho34=>(simp only [List.getElem?_toArray,List.getElem?_cons_succ,List.getElem?_cons_zero];rfl)
       go_simp
       refine hK.out _ _ ?hS35 (fun hHeld'=>?rest35)
       case hS35=>((try dsimp only);(go_split_ands;refine ⟨?_,?_,?_,?_,?_,?_⟩ <;> first | (simp [go_sem, *];done) | exact zaa ((Below.refl _ _).alloc (Nat.le_refl _) _) (by assumption)))
       clear hK K
       (first | simp only [pA,pZ,pS] | simp only [pN] | skip)
       clear hHeld
       have hHeld:=hHeld'
       clear hHeld'
       have hR5:=hR4.alloc (by have:=hR4.size;omega) (.cells (zat ⟨(k:Int),tmOp t, -1,t.val⟩).toArray 111)
       have hsz5:=hR5.size
       refine wpAnyH_ready (rs:=[9]) (by kernel_rfl) (by simp) ?_
       refine AllReadyH.cons (o:=?o36) ?ho36 (fun K hK=>?step36) AllReadyH.nil
       case ho36=>(simp only [List.getElem?_toArray,List.getElem?_cons_succ,List.getElem?_cons_zero];rfl)
       (refine zao (by rfl) (.tmp 37) (.tmp 44) 55 (by rfl) (w1.heap.size+1) 111 _ 6 56 Tryz.underlying55 zep (by rfl) (by omega) _ (zah p.terms k).length _ (by rfl) (zeM HO.out hR5) (some ⟨_,0,none⟩) 1 1 (by rfl) (zat ⟨(k:Int),tmOp t, -1,t.val⟩) (by rfl) (fun e=>by cases e) (zcd _ _ _ _ (by rfl)) (zbP _) (by unfold maxLen;omega) (by omega) (by simp at hsz5 ⊢;omega) ?_;intro a3 c3' w3 ho3 hg3 hl3;have hne3:(Value.slice a' (zah p.terms k).length c').ownBlock≠some wr.heap.size:=(fun e=>by have:=(HO.out.lt _ e).2;omega);have hW3:Below (w1.heap.size+1) wr w3:=((hR5.mono (by omega)).grown hg3.out (by simp at hsz5 ⊢;omega) (fun g hg=>(HO.out.lt g hg).1));obtain ⟨_,_,m2,_,_,n2⟩:=HOUT.out.belowB hW3 (by omega))
       refine hK.out _ _ ?hS37 (fun hHeld'=>?rest37)
       case hS37=>((try dsimp only);(go_split_ands;refine ⟨?_,?_,?_,?_,?_,?_⟩ <;> first | exact (zb9 hg3.out hne3 (by have:=hR4.size;simp;omega)).trans (by assumption)))
       clear hK K
       (first | simp only [pA,pZ,pS] | simp only [pN] | skip)
       clear hHeld
       have hHeld:=hHeld'
       clear hHeld'
       refine tk 10 hHeld ?_
       (try simp only [pA,pZ,pS])
       refine wpAnyH_ready (rs:=[11]) (by kernel_rfl) (by simp) ?_
       refine AllReadyH.cons (o:=?o38) ?ho38 (fun K hK=>?step38) AllReadyH.nil
       case ho38=>(simp only [List.getElem?_toArray,List.getElem?_cons_succ,List.getElem?_cons_zero];rfl)
       go_simp
       refine hK.out _ _ ?hS39 (fun hHeld'=>?rest39)
       case hS39=>((try dsimp only);(go_split_ands;refine ⟨?_,?_,?_,?_,?_,?_⟩ <;> first | (simp [go_sem, *];done)))
       clear hK K
       (first | simp only [pA,pZ,pS] | simp only [pN] | skip)
       clear hHeld
       have hHeld:=hHeld'
       clear hHeld'
       refine wpAnyH_done (by kernel_rfl) ?_ _
       refine NoPanic.normal ?_
       have ho3':w3.ownsRow (w1.heap.size+1) 111 6 (.slice a3 (zah p.terms (k+1)).length c3') (zah p.terms (k+1)).length ((zah p.terms (k+1)).flatMap zat):=by
        have:=ho3.out
        rw [HTN.out,List.flatMap_append]
        simpa [zat] using this
       have hlen:(zah p.terms (k+1)).length=(zah p.terms k).length+1:=by rw [HTN.out];simp
       obtain ⟨u1,u2,u3⟩:=zge HOUT.out hW3 ho3' hb
       rw [hlen] at u1 u2 u3
       go_wp2
       go_roundw
       case rel=>exact ⟨k+1,a3,c3',by omega,by go_num,by rw [hlen];exact u1,by rw [hlen];exact u2,u3⟩
       case measure=>simp [intOf];omega
      case step30=>
       go_simp
       (go_at_call 105;refine (hOP.out _).mono ?_;rintro e' w4 ⟨rfl,hb4⟩)
       (try go_wp2_with fail)
       refine hK.out _ _ ?hS40 (fun hHeld'=>?rest40)
       case hS40=>((try dsimp only);(go_split_ands;refine ⟨?_,?_,?_,?_,?_,?_⟩ <;> first | exact zaa hb4 (by assumption)))
       clear hK K
       (first | simp only [pA,pZ,pS] | simp only [pN] | skip)
       clear hHeld
       have hHeld:=hHeld'
       clear hHeld'
       have hR4:Below wr.heap.size wr w4:=hR2.drew.trans (hb4.mono (by have:=hR2.size;simp;omega))
       have q4:=zaa hb4 (show w2.drew.cell? ⟨w1.heap.size,2,none⟩=_ from q2)
       have q5:∀ o,(w4.alloc o).cell? ⟨w1.heap.size,2,none⟩=_:=fun o=>zaa ((Below.refl _ _).alloc (Nat.le_refl _) _) q4
       refine tk 7 hHeld ?_
       (try simp only [pA,pZ,pS])
       refine wpAnyH_ready (rs:=[1,8]) (by kernel_rfl) (by simp) ?_
       refine AllReadyH.cons (o:=?o41) ?ho41 (fun K hK=>?step41) (AllReadyH.cons (o:=?o42) ?ho42 (fun K hK=>?step42) AllReadyH.nil)
       case ho41=>(simp only [List.getElem?_toArray,List.getElem?_cons_succ,List.getElem?_cons_zero];rfl)
       case ho42=>(simp only [List.getElem?_toArray,List.getElem?_cons_succ,List.getElem?_cons_zero];rfl)
       case step41=>
        go_simp
        refine hK.out _ _ ?hS43 (fun hHeld'=>?rest43)
        case hS43=>((try dsimp only);(go_split_ands;refine ⟨?_,?_,?_,?_,?_,?_⟩ <;> first | assumption | exact zaa hb4 (by assumption)))
        clear hK K
        (first | simp only [pA,pZ,pS] | simp only [pN] | skip)
        clear hHeld
        have hHeld:=hHeld'
        clear hHeld'
        refine wpAnyH_ready (rs:=[8]) (by kernel_rfl) (by simp) ?_
        refine AllReadyH.cons (o:=?o44) ?ho44 (fun K hK=>?step44) AllReadyH.nil
        case ho44=>(simp only [List.getElem?_toArray,List.getElem?_cons_succ,List.getElem?_cons_zero];rfl)
        go_simp
        refine hK.out _ _ ?hS45 (fun hHeld'=>?rest45)
        case hS45=>((try dsimp only);(go_split_ands;refine ⟨?_,?_,?_,?_,?_,?_⟩ <;> first | (simp [go_sem, *];done) | exact zaa ((Below.refl _ _).alloc (Nat.le_refl _) _) (by assumption)))
        clear hK K
        (first | simp only [pA,pZ,pS] | simp only [pN] | skip)
        clear hHeld
        have hHeld:=hHeld'
        clear hHeld'
        have hR5:=hR4.alloc (by have:=hR4.size;omega) (.cells (zat ⟨(k:Int),tmOp t, -1,t.val⟩).toArray 111)
        have hsz5:=hR5.size
        refine wpAnyH_ready (rs:=[9]) (by kernel_rfl) (by simp) ?_
        refine AllReadyH.cons (o:=?o46) ?ho46 (fun K hK=>?step46) AllReadyH.nil
        case ho46=>(simp only [List.getElem?_toArray,List.getElem?_cons_succ,List.getElem?_cons_zero];rfl)
        (refine zao (by rfl) (.tmp 37) (.tmp 44) 55 (by rfl) (w1.heap.size+1) 111 _ 6 56 Tryz.underlying55 zep (by rfl) (by omega) _ (zah p.terms k).length _ (by rfl) (zeM HO.out hR5) (some ⟨_,0,none⟩) 1 1 (by rfl) (zat ⟨(k:Int),tmOp t, -1,t.val⟩) (by rfl) (fun e=>by cases e) (zcd _ _ _ _ (by rfl)) (zbP _) (by unfold maxLen;omega) (by omega) (by simp at hsz5 ⊢;omega) ?_;intro a3 c3' w3 ho3 hg3 hl3;have hne3:(Value.slice a' (zah p.terms k).length c').ownBlock≠some wr.heap.size:=(fun e=>by have:=(HO.out.lt _ e).2;omega);have hW3:Below (w1.heap.size+1) wr w3:=((hR5.mono (by omega)).grown hg3.out (by simp at hsz5 ⊢;omega) (fun g hg=>(HO.out.lt g hg).1));obtain ⟨_,_,m2,_,_,n2⟩:=HOUT.out.belowB hW3 (by omega))
        refine hK.out _ _ ?hS47 (fun hHeld'=>?rest47)
        case hS47=>((try dsimp only);(go_split_ands;refine ⟨?_,?_,?_,?_,?_,?_⟩ <;> first | exact (zb9 hg3.out hne3 (by have:=hR4.size;simp;omega)).trans (by assumption)))
        clear hK K
        (first | simp only [pA,pZ,pS] | simp only [pN] | skip)
        clear hHeld
        have hHeld:=hHeld'
        clear hHeld'
        refine tk 10 hHeld ?_
        (try simp only [pA,pZ,pS])
        refine wpAnyH_ready (rs:=[11]) (by kernel_rfl) (by simp) ?_
        refine AllReadyH.cons (o:=?o48) ?ho48 (fun K hK=>?step48) AllReadyH.nil
        case ho48=>(simp only [List.getElem?_toArray,List.getElem?_cons_succ,List.getElem?_cons_zero];rfl)
        go_simp
        refine hK.out _ _ ?hS49 (fun hHeld'=>?rest49)
        case hS49=>((try dsimp only);(go_split_ands;refine ⟨?_,?_,?_,?_,?_,?_⟩ <;> first | (simp [go_sem, *];done)))
        clear hK K
        (first | simp only [pA,pZ,pS] | simp only [pN] | skip)
        clear hHeld
        have hHeld:=hHeld'
        clear hHeld'
        refine wpAnyH_done (by kernel_rfl) ?_ _
        refine NoPanic.normal ?_
        have ho3':w3.ownsRow (w1.heap.size+1) 111 6 (.slice a3 (zah p.terms (k+1)).length c3') (zah p.terms (k+1)).length ((zah p.terms (k+1)).flatMap zat):=by
         have:=ho3.out
         rw [HTN.out,List.flatMap_append]
         simpa [zat] using this
        have hlen:(zah p.terms (k+1)).length=(zah p.terms k).length+1:=by rw [HTN.out];simp
        obtain ⟨u1,u2,u3⟩:=zge HOUT.out hW3 ho3' hb
        rw [hlen] at u1 u2 u3
        go_wp2
        go_roundw
        case rel=>exact ⟨k+1,a3,c3',by omega,by go_num,by rw [hlen];exact u1,by rw [hlen];exact u2,u3⟩
        case measure=>simp [intOf];omega
       case step42=>
        go_simp
        refine hK.out _ _ ?hS50 (fun hHeld'=>?rest50)
        case hS50=>((try dsimp only);(go_split_ands;refine ⟨?_,?_,?_,?_,?_,?_⟩ <;> first | (simp [go_sem, *];done) | exact zaa ((Below.refl _ _).alloc (Nat.le_refl _) _) (by assumption)))
        clear hK K
        (first | simp only [pA,pZ,pS] | simp only [pN] | skip)
        clear hHeld
        have hHeld:=hHeld'
        clear hHeld'
        refine wpAnyH_ready (rs:=[1]) (by kernel_rfl) (by simp) ?_
        refine AllReadyH.cons (o:=?o51) ?ho51 (fun K hK=>?step51) AllReadyH.nil
        case ho51=>(simp only [List.getElem?_toArray,List.getElem?_cons_succ,List.getElem?_cons_zero];rfl)
        go_simp
        refine hK.out _ _ ?hS52 (fun hHeld'=>?rest52)
        case hS52=>((try dsimp only);(go_split_ands;refine ⟨?_,?_,?_,?_,?_,?_⟩ <;> first | assumption))
        clear hK K
        (first | simp only [pA,pZ,pS] | simp only [pN] | skip)
        clear hHeld
        have hHeld:=hHeld'
        clear hHeld'
        have hR5:=hR4.alloc (by have:=hR4.size;omega) (.cells (zat ⟨(k:Int),tmOp t, -1,t.val⟩).toArray 111)
        have hsz5:=hR5.size
        refine wpAnyH_ready (rs:=[9]) (by kernel_rfl) (by simp) ?_
        refine AllReadyH.cons (o:=?o53) ?ho53 (fun K hK=>?step53) AllReadyH.nil
        case ho53=>(simp only [List.getElem?_toArray,List.getElem?_cons_succ,List.getElem?_cons_zero];rfl)
        (refine zao (by rfl) (.tmp 37) (.tmp 44) 55 (by rfl) (w1.heap.size+1) 111 _ 6 56 Tryz.underlying55 zep (by rfl) (by omega) _ (zah p.terms k).length _ (by rfl) (zeM HO.out hR5) (some ⟨_,0,none⟩) 1 1 (by rfl) (zat ⟨(k:Int),tmOp t, -1,t.val⟩) (by rfl) (fun e=>by cases e) (zcd _ _ _ _ (by rfl)) (zbP _) (by unfold maxLen;omega) (by omega) (by simp at hsz5 ⊢;omega) ?_;intro a3 c3' w3 ho3 hg3 hl3;have hne3:(Value.slice a' (zah p.terms k).length c').ownBlock≠some wr.heap.size:=(fun e=>by have:=(HO.out.lt _ e).2;omega);have hW3:Below (w1.heap.size+1) wr w3:=((hR5.mono (by omega)).grown hg3.out (by simp at hsz5 ⊢;omega) (fun g hg=>(HO.out.lt g hg).1));obtain ⟨_,_,m2,_,_,n2⟩:=HOUT.out.belowB hW3 (by omega))
        refine hK.out _ _ ?hS54 (fun hHeld'=>?rest54)
        case hS54=>((try dsimp only);(go_split_ands;refine ⟨?_,?_,?_,?_,?_,?_⟩ <;> first | exact (zb9 hg3.out hne3 (by have:=hR4.size;simp;omega)).trans (by assumption)))
        clear hK K
        (first | simp only [pA,pZ,pS] | simp only [pN] | skip)
        clear hHeld
        have hHeld:=hHeld'
        clear hHeld'
        refine tk 10 hHeld ?_
        (try simp only [pA,pZ,pS])
        refine wpAnyH_ready (rs:=[11]) (by kernel_rfl) (by simp) ?_
        refine AllReadyH.cons (o:=?o55) ?ho55 (fun K hK=>?step55) AllReadyH.nil
        case ho55=>(simp only [List.getElem?_toArray,List.getElem?_cons_succ,List.getElem?_cons_zero];rfl)
        go_simp
        refine hK.out _ _ ?hS56 (fun hHeld'=>?rest56)
        case hS56=>((try dsimp only);(go_split_ands;refine ⟨?_,?_,?_,?_,?_,?_⟩ <;> first | (simp [go_sem, *];done)))
        clear hK K
        (first | simp only [pA,pZ,pS] | simp only [pN] | skip)
        clear hHeld
        have hHeld:=hHeld'
        clear hHeld'
        refine wpAnyH_done (by kernel_rfl) ?_ _
        refine NoPanic.normal ?_
        have ho3':w3.ownsRow (w1.heap.size+1) 111 6 (.slice a3 (zah p.terms (k+1)).length c3') (zah p.terms (k+1)).length ((zah p.terms (k+1)).flatMap zat):=by
         have:=ho3.out
         rw [HTN.out,List.flatMap_append]
         simpa [zat] using this
        have hlen:(zah p.terms (k+1)).length=(zah p.terms k).length+1:=by rw [HTN.out];simp
        obtain ⟨u1,u2,u3⟩:=zge HOUT.out hW3 ho3' hb
        rw [hlen] at u1 u2 u3
        go_wp2
        go_roundw
        case rel=>exact ⟨k+1,a3,c3',by omega,by go_num,by rw [hlen];exact u1,by rw [hlen];exact u2,u3⟩
        case measure=>simp [intOf];omega
   ·have hkk:k=p.terms.length:=by omega
    subst hkk
    obtain ⟨o0,o1,o2,_,_,_⟩:=hout
    obtain ⟨r0,r1,r2,f0,f1,f2⟩:=hrz
    clear hpp
    go_wp2
    refine bodyPost_ret (v:=.agg #[.string p.cls,.int .i64 (p.terms.length:Int),.slice a' (zah p.terms p.terms.length).length c']) (by simp [results,Tryz.results67,go_sem,r0,r1,r2]) rfl ⟨⟨a',c',by rw [HA.out],?_⟩,?_⟩
    ·rw [HA.out]
     refine zan (zae HO.out (fun g hg=>?_)) (by omega)
     have hgl:=(HO.out.lt g hg).1
     exact (((Low.setCell (B:=w1.heap.size+1) (by omega) _).trans (Low.setCell (by omega) _)).trans (Low.setCell (by omega) _)) g hgl
    ·exact ((hBw.setCell (by simp) _).setCell (by simp) _).setCell (by simp) _
end Go.Proofs.YtmmdlgjmplddiaaGreat
