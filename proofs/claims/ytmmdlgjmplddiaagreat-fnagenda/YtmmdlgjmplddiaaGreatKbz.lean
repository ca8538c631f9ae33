/-
  OUR OWN TEXT. Bf7a, Bf7, one behind the other.
-/
import Derived.Test.YtmmdlgjmplddiaaGreatKbu
namespace Go.Proofs.YtmmdlgjmplddiaaGreat
open Go.RowKit
attribute [local go_sem ↓] Go.wp_at_zero Go.wp_at_succ
theorem zil {rs:List Ru}{x:In} (h:zaJ rs x=true):∃ (i:Nat) (r:Ru),x.rule=(i:Int)∧rs[i]?=some r∧zaZ rs x=r.sal∧i<rs.length∧x.tags.length≤3:=by
 simp only [zaJ,Bool.and_eq_true,decide_eq_true_eq] at h
 obtain ⟨h1,h2,h3⟩:=h
 have hlt:x.rule.toNat<rs.length:=by omega
 refine ⟨x.rule.toNat,rs[x.rule.toNat],by omega,List.getElem?_eq_getElem hlt,?_,hlt,h3⟩
 unfold zaZ
 rw [List.getElem?_eq_getElem hlt]
 rfl
theorem zps {rs:List Ru}{a b:In} (h:zaZ rs a≠zaZ rs b):befS rs a b=decide (zaZ rs b<zaZ rs a):=by unfold befS;rw [if_pos h]
theorem zoR {rs:List Ru}{a b:In} (h:zaZ rs a=zaZ rs b) (h2:lexT (recA a.tags) (recA b.tags)≠0):befS rs a b=decide (0<lexT (recA a.tags) (recA b.tags)):=by unfold befS;rw [if_neg (by simp [h]),if_pos h2]
theorem zpa {rs:List Ru}{a b:In} (h:zaZ rs a=zaZ rs b) (h2:lexT (recA a.tags) (recA b.tags)=0) (h3:a.rule≠b.rule):befS rs a b=decide (a.rule<b.rule):=by unfold befS;rw [if_neg (by simp [h]),if_neg (by simp [h2]),if_pos h3]
theorem zoQ {rs:List Ru}{a b:In} (h:zaZ rs a=zaZ rs b) (h2:lexT (recA a.tags) (recA b.tags)=0) (h3:a.rule=b.rule):befS rs a b=decide (lexT a.tags b.tags<0):=by unfold befS;rw [if_neg (by simp [h]),if_neg (by simp [h2]),if_neg (by simp [h3])]
set_option maxRecDepth 100000 in
set_option maxHeartbeats 3200000 in
theorem zhV (rs:List Ru) (a:Option Addr) (c:Nat) (x y:In) (ax ay:Option Addr) (cx cy:Nat) (w:World) {q q1 q2:Option Nat} (hv:zbR q w a rs) (hx:zas q1 w ax x.tags) (hy:zas q2 w ay y.tags) (hpx:zaJ rs x=true) (hpy:zaJ rs y=true) :
  Calls Tryz.prog 47 #[.slice a rs.length c,.agg #[.int .i64 x.rule,.slice ax x.tags.length cx],.agg #[.int .i64 y.rule,.slice ay y.tags.length cy]] w fun e w'=>e=.returned (.bool (befS rs x y))∧Below w.heap.size w w':=by
 obtain ⟨i,r,hi,hr,hsx,hil,hx3⟩:=zil hpx
 obtain ⟨j,s,hj,hs,hsy,hjl,hy3⟩:=zil hpy
 have E1:=hidS (zps (rs:=rs) (a:=x) (b:=y))
 have E2:=hidS (zoR (rs:=rs) (a:=x) (b:=y))
 have E3:=hidS (zpa (rs:=rs) (a:=x) (b:=y))
 have E4:=hidS (zoQ (rs:=rs) (a:=x) (b:=y))
 rw [hsx,hsy] at E1 E2 E3 E4
 rw [hi,hj] at E3 E4 ⊢
 obtain ⟨br,orr,_,_,_,_,_,_,rfl,_,_,dx,_⟩:=hv.get hr
 obtain ⟨br',orr',_,_,_,_,_,_,e,_,_,dy,_⟩:=hv.get hs
 simp only [Option.some.injEq,Addr.mk.injEq,and_true] at e
 obtain ⟨rfl,rfl⟩:=e
 have B2:∀ o o',Below w.heap.size w ((w.alloc o).alloc o'):=fun o o'=>((Below.refl _ _).alloc (Nat.le_refl _) _).alloc (by simp) _
 have DX:=hidS (fun o o'=>zaa (B2 o o') dx)
 have DY:=hidS (fun o o'=>zaa (B2 o o') dy)
 have hlr:=World.block_lt_of_cell? w ⟨br,_,none⟩ dx
 have hii:(i:Int)<(rs.length:Int):=by omega
 have hjj:(j:Int)<(rs.length:Int):=by omega
 have HRX:=hidS (fun o o'=>zju ax cx x.tags (((w.alloc o).alloc o').drew) (hx.below (B2 o o').drew) (by omega))
 have HRY:=hidS (fun w1 (h1:Below w.heap.size w w1)=>zju ay cy y.tags w1 (hy.below h1) (by omega))
 have HTG:=hidS (fun w1 a1 c1 a2 c2 (h1:zas none w1 a1 (recA x.tags)) (h2:zas none w1 a2 (recA y.tags))=>zgD a1 a2 c1 c2 (recA x.tags) (recA y.tags) w1 h1 h2 (by have:=ze6 x.tags;omega) (by have:=ze6 y.tags;omega))
 have HTT:=hidS (fun w1 (h1:Below w.heap.size w w1)=>zgD ax ay cx cy x.tags y.tags w1 (hx.below h1) (hy.below h1) (by omega) (by omega))
 generalize hR:befS rs x y=R at *
 generalize lexT (recA x.tags) (recA y.tags)=t1 at *
 generalize lexT x.tags y.tags=t2 at *
 have HB2:=hidS B2
 have d1:∀ o o',((w.alloc o).alloc o').cell? ⟨br,orr+i * 5+1,none⟩=some (.int .i64 r.sal):=fun o o'=>DX.out o o'
 have d2:∀ o o',((w.alloc o).alloc o').cell? ⟨br,orr+j * 5+1,none⟩=some (.int .i64 s.sal):=fun o o'=>DY.out o o'
 clear hR hv hx hy hr hs hsx hsy hi hj dx dy DX DY B2 hpx hpy
 by_cases h1:r.sal=s.sal
 ·have HE1:=hidS h1
  rw [h1] at d1
  clear h1
  go_enter Tryz.func47,Tryz.ntmps47
  go_wp2_with fail
  go_region_held3 (fun w'=>w'.cell? ⟨w.heap.size,0,none⟩=some (.int .i64 (i:Int))∧w'.cell? ⟨w.heap.size,1,none⟩=some (.slice ax x.tags.length cx)∧w'.cell? ⟨w.heap.size+1,0,none⟩=some (.int .i64 (j:Int))∧w'.cell? ⟨w.heap.size+1,1,none⟩=some (.slice ay y.tags.length cy)) (first | (go_split_ands;(refine ⟨?_,?_,?_,?_⟩ <;> first | with_reducible assumption | (simp [*];done) | with_reducible exact zaa hb1 (by assumption) | with_reducible exact zaa hb2 (by assumption) | with_reducible exact zaa hb3 (by assumption));done) | fail)
   (first
    | (go_at_call 83;with_reducible refine (HRX.out _ _).mono ?_;rintro e w1 ⟨⟨a1,c1,rfl,o1⟩,hb1⟩;have hB1:Below w.heap.size w w1:=(HB2.out _ _).drew.trans (hb1.mono (by simp;omega)))
    | (go_at_call 83;with_reducible refine (HRY.out w1 hB1).mono ?_;rintro e w2 ⟨⟨a2,c2,rfl,o2⟩,hb2⟩;have o1':=zae o1 (fun g hg=>hb2.block g (o1.lt g hg).2))
    | (go_at_call 82;with_reducible refine (HTG.out w2 a1 c1 a2 c2 (zas.owns o1') (zas.owns o2)).mono ?_;rintro e w3 ⟨rfl,hb3⟩)
    | fail)
  rename_i hHld
  obtain ⟨k0,k1,k2,k3⟩:=hHld
  have hB3:Below w.heap.size w w3:=(hB1.trans (hb2.mono hB1.size)).trans (hb3.mono (by have:=hB1.size;have:=hb2.size;omega))
  have HB3:=hidS hB3
  have HT3:=hidS (HTT.out w3 hB3)
  clear HRX HRY HTG HTT o1 o1' o2 hb1 hb2 hb3 hB1 hB3 d1 d2
  by_cases h2:t1=0
  ·subst h2
   by_cases h3:i=j
   ·subst h3
    have HE:=hidS (E4.out HE1.out rfl rfl)
    clear E1 E2 E3 E4
    go_wp2_with (go_at_call 82;with_reducible refine HT3.out.mono ?_;rintro e w4 ⟨rfl,hb4⟩)
    go_ret
    exact ⟨zac HE.out.symm,HB3.out.trans (hb4.mono HB3.out.size)⟩
   ·have HE:=hidS (E3.out HE1.out rfl (by omega))
    clear E1 E2 E3 E4
    have h3':¬ (i:Int)=(j:Int):=by omega
    go_wp2_with fail
    go_ret
    exact ⟨zac (by rw [HE.out];first | rfl | simp),HB3.out⟩
  ·have HE:=hidS (E2.out HE1.out h2)
   clear E1 E2 E3 E4
   go_wp2_with fail
   go_ret
   exact ⟨zac HE.out.symm,HB3.out⟩
 ·have HE:=hidS (E1.out h1)
  clear E1 E2 E3 E4
  have h1':(r.sal==s.sal)=false:=by simpa using h1
  go_enter Tryz.func47,Tryz.ntmps47
  go_wp2_with fail
  go_ret
  exact ⟨zac HE.out.symm,HB2.out _ _⟩
end Go.Proofs.YtmmdlgjmplddiaaGreat
namespace Go.Proofs.YtmmdlgjmplddiaaGreat
open Go.RowKit
attribute [local go_sem ↓] Go.wp_at_zero Go.wp_at_succ
theorem zmS {rs:List Ru}{x y:In} (h1:zaJ rs x=true) (h2:zaJ rs y=true) (h3:decide ((chk rs).1=0)=true):bef rs x y=befS rs x y:=by
 rw [zmO]
 unfold bef
 simp only [h1,h2,h3,Bool.true_and]
end Go.Proofs.YtmmdlgjmplddiaaGreat
