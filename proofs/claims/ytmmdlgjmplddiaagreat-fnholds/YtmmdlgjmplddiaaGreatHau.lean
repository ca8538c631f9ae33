/-
  OUR OWN TEXT. Ap2, Ap3, Pg3, TyB0, Bl0, Mm0, Pq1, Bl, one behind the other.
-/
import Derived.Test.YtmmdlgjmplddiaaGreatHas
import Derived.Test.YtmmdlgjmplddiaaGreatHal
import Derived.Deep.RegionHeld3
import Derived.Deep.DrawnRows
import Derived.Test.YtmmdlgjmplddiaaGreatHat
import Derived.Test.YtmmdlgjmplddiaaGreatHah
import Derived.Test.YtmmdlgjmplddiaaGreatHaa
namespace Go.Proofs.YtmmdlgjmplddiaaGreat
open Go.RowKit
attribute [local go_sem ↓] Go.wp_at_zero Go.wp_at_succ
def inR (i:Int) (n:Nat):Bool:=decide (0≤i) && decide (i<(n:Int))
def getI (vs:List V) (i:Int):Option V:=if 0≤i then vs[i.toNat]? else none
def zbv (t:Tt) (vs:List V):Bool:=
 match getI vs t.slot with
 | none=>false
 | some v=>if t.other = -1 then meets t.op v t.val else match getI vs t.other with
  | none=>false
  | some o=>meets t.op v o
def passes (a:Al) (f:F):Bool:=decide (f.cls.toList=a.cls.toList) && (decide ((f.slots.length:Int)=a.arity) && a.tests.all (fun t=>zbv t f.slots))
theorem zjb {vs:List V}{i:Int} (h:inR i vs.length=false):getI vs i=none:=by
 unfold getI
 split
 ·rename_i h0
  simp [inR,h0] at h
  exact List.getElem?_eq_none (by omega)
 ·rfl
theorem zkj {vs:List V}{i:Int} (h:inR i vs.length=true):∃ (s:Nat) (v:V),i=(s:Int)∧s<vs.length∧vs[s]?=some v∧getI vs i=some v:=by
 simp only [inR,Bool.and_eq_true,decide_eq_true_eq] at h
 obtain ⟨s,rfl⟩:=Int.eq_ofNat_of_zero_le h.1
 have hs:s<vs.length:=by omega
 refine ⟨s,vs[s],rfl,hs,by simp,?_⟩
 unfold getI
 rw [if_pos h.1]
 simp
set_option maxHeartbeats 800000 in
theorem zlm (f:F) (a:Option Addr) (c:Nat) (i:Int) (w:World) :
  Calls Tryz.prog 139 #[.agg #[.int .i64 f.tag,.string f.cls,.slice a f.slots.length c],.int .i64 i] w fun e w'=>
   e=.returned (.bool (inR i f.slots.length))∧Below w.heap.size w w':=by
 have B1:∀ o,Below w.heap.size w (w.alloc o):=fun o=>(Below.refl _ _).alloc (Nat.le_refl _) _
 by_cases h0:0≤i
 ·go_enter Tryz.func139,Tryz.ntmps139
  go_wp2
  go_ret
  exact ⟨zac (by simp [inR,h0]),B1 _⟩
 ·go_enter Tryz.func139,Tryz.ntmps139
  go_wp2
  go_ret
  exact ⟨zac (by simp [inR];omega),B1 _⟩
set_option maxHeartbeats 3200000 in
theorem zjh (t:Tt) (f:F) (a:Option Addr) (c:Nat) (w:World) (hv:zaY w a f.slots) :
  Calls Tryz.prog 108 #[.agg #[.int .i64 t.slot,.int .i64 t.op,.int .i64 t.other,.int .i64 t.val.kind,.int .i64 t.val.num,.string t.val.sym],.agg #[.int .i64 f.tag,.string f.cls,.slice a f.slots.length c]] w fun e w'=>
   e=.returned (.bool (zbv t f.slots))∧Below w.heap.size w w':=by
 have B2:∀ o o1,Below w.heap.size w ((w.alloc o).alloc o1):=fun o o1=>((Below.refl _ _).alloc (Nat.le_refl _) _).alloc (by simp) _
 have hH1:=hidA (fun w'=>zlm f a c t.slot w')
 cases hs:inR t.slot f.slots.length
 ·rw [hs] at hH1
  have HN:Hid (zbv t f.slots=false):=show zbv t f.slots=false from by simp [zbv,zjb hs]
  go_enter Tryz.func108,Tryz.ntmps108
  go_wp2_with (go_at_call 139;refine (hH1.out _).mono ?_;rintro e w1 ⟨rfl,hb1⟩)
  go_ret
  exact ⟨zac HN.out.symm,(B2 _ _).trans (hb1.mono (by simp;omega))⟩
 ·rw [hs] at hH1
  obtain ⟨s,v,es,hsl,hvs,hg⟩:=zkj hs
  obtain ⟨b,o,rfl,c0,c1,c2⟩:=hv s v hvs
  have z0:(0:Int)≤(s:Int):=by omega
  have z1:(s:Int)<(f.slots.length:Int):=by omega
  by_cases ho:t.other = -1
  ·have HN:Hid (zbv t f.slots=meets t.op v t.val):=show zbv t f.slots=_ from by simp [zbv,hg,ho]
   have hM:=hidA (fun w'=>ze6 v t.val t.op w')
   rw [es,ho]
   rw [es] at hH1
   clear es hg hvs hv
   go_enter Tryz.func108,Tryz.ntmps108
   go_wp2_with (go_at_call 139;refine (hH1.out _).mono ?_;rintro e w1 ⟨rfl,hb1⟩;have p0:w1.cell? ⟨w.heap.size,0,none⟩=some (.int .i64 (s:Int)):=zaa hb1 (by simp [go_sem]);have p1:w1.cell? ⟨w.heap.size,1,none⟩=some (.int .i64 t.op):=zaa hb1 (by simp [go_sem]);have p2:w1.cell? ⟨w.heap.size,2,none⟩=some (.int .i64 (-1)):=zaa hb1 (by simp [go_sem]);have p3:w1.cell? ⟨w.heap.size,3,none⟩=some (.int .i64 t.val.kind):=zaa hb1 (by simp [go_sem]);have p4:w1.cell? ⟨w.heap.size,4,none⟩=some (.int .i64 t.val.num):=zaa hb1 (by simp [go_sem]);have p5:w1.cell? ⟨w.heap.size,5,none⟩=some (.string t.val.sym):=zaa hb1 (by simp [go_sem]);have f0:w1.cell? ⟨w.heap.size+1,0,none⟩=some (.int .i64 f.tag):=zaa hb1 (by simp [go_sem]);have f1:w1.cell? ⟨w.heap.size+1,1,none⟩=some (.string f.cls):=zaa hb1 (by simp [go_sem]);have f2:w1.cell? ⟨w.heap.size+1,2,none⟩=some (.slice (some ⟨b,o,none⟩) f.slots.length c):=zaa hb1 (by simp [go_sem]);have x0:=zaa hb1 (zaa (B2 _ _) c0);have x1:=zaa hb1 (zaa (B2 _ _) c1);have x2:=zaa hb1 (zaa (B2 _ _) c2))
   clear c0 c1 c2 ho hs hsl hH1
   first
   | (go_region_held3 (fun w'=>w'.cell? ⟨w.heap.size,0,none⟩=some (.int .i64 (s:Int))∧w'.cell? ⟨w.heap.size,1,none⟩=some (.int .i64 t.op)∧w'.cell? ⟨w.heap.size,2,none⟩=some (.int .i64 (-1))∧w'.cell? ⟨w.heap.size,3,none⟩=some (.int .i64 t.val.kind)∧w'.cell? ⟨w.heap.size,4,none⟩=some (.int .i64 t.val.num)∧w'.cell? ⟨w.heap.size,5,none⟩=some (.string t.val.sym)∧w'.cell? ⟨w.heap.size+1,0,none⟩=some (.int .i64 f.tag)∧w'.cell? ⟨w.heap.size+1,1,none⟩=some (.string f.cls)∧w'.cell? ⟨w.heap.size+1,2,none⟩=some (.slice (some ⟨b,o,none⟩) f.slots.length c)∧w'.cell? ⟨b,o+s * 3,none⟩=some (.int .i64 v.kind)∧w'.cell? ⟨b,o+s * 3+1,none⟩=some (.int .i64 v.num)∧w'.cell? ⟨b,o+s * 3+2,none⟩=some (.string v.sym)) ((go_split_ands;refine ⟨?_,?_,?_,?_,?_,?_,?_,?_,?_,?_,?_,?_⟩ <;> first | (simp [*];done) | exact zaa hb' (by assumption))) (first | (go_at_call 97;refine (hM.out _).mono ?_;rintro e w' ⟨rfl,hb'⟩) | fail))
   | fail
   go_wp2
   go_ret
   exact ⟨zac HN.out.symm,((B2 _ _).trans (hb1.mono (by simp;omega))).drew.trans (hb'.mono (by have:=(B2 default default).size;have:=hb1.size;simp at *;omega))⟩
  ·have hH2:=hidA (fun w'=>zlm f (some ⟨b,o,none⟩) c t.other w')
   cases hs2:inR t.other f.slots.length
   ·rw [hs2] at hH2
    have HN:Hid (zbv t f.slots=false):=show zbv t f.slots=_ from by simp [zbv,hg,ho,zjb hs2]
    rw [es]
    rw [es] at hH1
    clear es hg hvs hv
    go_enter Tryz.func108,Tryz.ntmps108
    go_wp2_with (go_at_call 139;refine (hH1.out _).mono ?_;rintro e w1 ⟨rfl,hb1⟩;have p0:w1.cell? ⟨w.heap.size,0,none⟩=some (.int .i64 (s:Int)):=zaa hb1 (by simp [go_sem]);have p1:w1.cell? ⟨w.heap.size,1,none⟩=some (.int .i64 t.op):=zaa hb1 (by simp [go_sem]);have p2:w1.cell? ⟨w.heap.size,2,none⟩=some (.int .i64 t.other):=zaa hb1 (by simp [go_sem]);have p3:w1.cell? ⟨w.heap.size,3,none⟩=some (.int .i64 t.val.kind):=zaa hb1 (by simp [go_sem]);have p4:w1.cell? ⟨w.heap.size,4,none⟩=some (.int .i64 t.val.num):=zaa hb1 (by simp [go_sem]);have p5:w1.cell? ⟨w.heap.size,5,none⟩=some (.string t.val.sym):=zaa hb1 (by simp [go_sem]);have f0:w1.cell? ⟨w.heap.size+1,0,none⟩=some (.int .i64 f.tag):=zaa hb1 (by simp [go_sem]);have f1:w1.cell? ⟨w.heap.size+1,1,none⟩=some (.string f.cls):=zaa hb1 (by simp [go_sem]);have f2:w1.cell? ⟨w.heap.size+1,2,none⟩=some (.slice (some ⟨b,o,none⟩) f.slots.length c):=zaa hb1 (by simp [go_sem]);have x0:=zaa hb1 (zaa (B2 _ _) c0);have x1:=zaa hb1 (zaa (B2 _ _) c1);have x2:=zaa hb1 (zaa (B2 _ _) c2))
    clear c0 c1 c2 ho hs hs2 hsl hH1
    refine wp_region_noPanic ?_
    refine wp_region_held_drew (S:=(fun w'=>w'.cell? ⟨w.heap.size,0,none⟩=some (.int .i64 (s:Int))∧w'.cell? ⟨w.heap.size,1,none⟩=some (.int .i64 t.op)∧w'.cell? ⟨w.heap.size,2,none⟩=some (.int .i64 t.other)∧w'.cell? ⟨w.heap.size,3,none⟩=some (.int .i64 t.val.kind)∧w'.cell? ⟨w.heap.size,4,none⟩=some (.int .i64 t.val.num)∧w'.cell? ⟨w.heap.size,5,none⟩=some (.string t.val.sym)∧w'.cell? ⟨w.heap.size+1,0,none⟩=some (.int .i64 f.tag)∧w'.cell? ⟨w.heap.size+1,1,none⟩=some (.string f.cls)∧w'.cell? ⟨w.heap.size+1,2,none⟩=some (.slice (some ⟨b,o,none⟩) f.slots.length c)∧w'.cell? ⟨b,o+s * 3,none⟩=some (.int .i64 v.kind)∧w'.cell? ⟨b,o+s * 3+1,none⟩=some (.int .i64 v.num)∧w'.cell? ⟨b,o+s * 3+2,none⟩=some (.string v.sym))) (by kernel_rfl) ?_ (fun hHeld=>?_)
    ·(try dsimp only)
     (go_split_ands;refine ⟨?_,?_,?_,?_,?_,?_,?_,?_,?_,?_,?_,?_⟩ <;> first | (simp [*];done) | exact zaa hb' (by assumption))
    refine wpAnyH_take (i:=0) (oi:=?oi1) (v:=?v1) ?hi1 (by kernel_rfl) (by kernel_rfl) (by kernel_rfl) (fun _ _ _ h=>h) (Or.inl ⟨?wd1,?hy1⟩) hHeld ?rest1
    case hi1=>(simp only [List.getElem?_toArray,List.getElem?_cons_zero];rfl)
    case wd1=>rfl
    case hy1=>(intro w hSw;(try dsimp only at hSw);go_simp;try with_reducible rfl)
    (try simp only [Act.put,List.setIfInBounds_toArray,List.set_cons_zero,List.set_cons_succ])
    refine wpAnyH_take (i:=1) (oi:=?oi2) (v:=?v2) ?hi2 (by kernel_rfl) (by kernel_rfl) (by kernel_rfl) (fun _ _ _ h=>h) (Or.inl ⟨?wd2,?hy2⟩) hHeld ?rest2
    case hi2=>(simp only [List.getElem?_toArray,List.getElem?_cons_succ,List.getElem?_cons_zero];rfl)
    case wd2=>rfl
    case hy2=>(intro w hSw;(try dsimp only at hSw);go_simp;try with_reducible rfl)
    (try simp only [Act.put,List.setIfInBounds_toArray,List.set_cons_zero,List.set_cons_succ])
    refine wpAnyH_take (i:=2) (oi:=?oi3) (v:=?v3) ?hi3 (by kernel_rfl) (by kernel_rfl) (by kernel_rfl) (fun _ _ _ h=>h) (Or.inl ⟨?wd3,?hy3⟩) hHeld ?rest3
    case hi3=>(simp only [List.getElem?_toArray,List.getElem?_cons_succ,List.getElem?_cons_zero];rfl)
    case wd3=>rfl
    case hy3=>(intro w hSw;(try dsimp only at hSw);go_simp;try with_reducible rfl)
    (try simp only [Act.put,List.setIfInBounds_toArray,List.set_cons_zero,List.set_cons_succ])
    refine wpAnyH_ready (rs:=[3]) (by kernel_rfl) (by simp) ?_
    refine AllReadyH.cons (o:=?o4) ?ho4 (fun K hK=>?step4) AllReadyH.nil
    case ho4=>(simp only [List.getElem?_toArray,List.getElem?_cons_succ,List.getElem?_cons_zero];rfl)
    go_simp
    (go_at_call 139;refine (hH2.out _).mono ?_;rintro e w' ⟨rfl,hb'⟩)
    (try go_wp2_with fail)
    refine hK.out _ _ ?hS4 (fun hHeld'=>?rest4)
    case hS4=>((try dsimp only);(go_split_ands;refine ⟨?_,?_,?_,?_,?_,?_,?_,?_,?_,?_,?_,?_⟩ <;> first | (simp [*];done) | exact zaa hb' (by assumption)))
    clear hK K
    (try simp only [Act.put,List.setIfInBounds_toArray,List.set_cons_zero,List.set_cons_succ])
    clear hHeld
    have hHeld:=hHeld'
    clear hHeld'
    refine wpAnyH_take (i:=4) (oi:=?oi5) (v:=?v5) ?hi5 (by kernel_rfl) (by kernel_rfl) (by kernel_rfl) (fun _ _ _ h=>h) (Or.inl ⟨?wd5,?hy5⟩) hHeld ?rest5
    case hi5=>(simp only [List.getElem?_toArray,List.getElem?_cons_succ,List.getElem?_cons_zero];rfl)
    case wd5=>rfl
    case hy5=>(intro w hSw;(try dsimp only at hSw);go_simp;try with_reducible rfl)
    (try simp only [Act.put,List.setIfInBounds_toArray,List.set_cons_zero,List.set_cons_succ])
    refine wpAnyH_take (i:=5) (oi:=?oi6) (v:=undef) ?hi6 (by kernel_rfl) (by kernel_rfl) (by kernel_rfl) (fun _ _ _ h=>h) (Or.inr ⟨?wd6,rfl⟩) hHeld ?rest6
    case hi6=>(simp only [List.getElem?_toArray,List.getElem?_cons_succ,List.getElem?_cons_zero];rfl)
    case wd6=>rfl
    (try simp only [Act.put,List.setIfInBounds_toArray,List.set_cons_zero,List.set_cons_succ])
    refine wpAnyH_take (i:=6) (oi:=?oi7) (v:=undef) ?hi7 (by kernel_rfl) (by kernel_rfl) (by kernel_rfl) (fun _ _ _ h=>h) (Or.inr ⟨?wd7,rfl⟩) hHeld ?rest7
    case hi7=>(simp only [List.getElem?_toArray,List.getElem?_cons_succ,List.getElem?_cons_zero];rfl)
    case wd7=>rfl
    (try simp only [Act.put,List.setIfInBounds_toArray,List.set_cons_zero,List.set_cons_succ])
    refine wpAnyH_take (i:=7) (oi:=?oi8) (v:=undef) ?hi8 (by kernel_rfl) (by kernel_rfl) (by kernel_rfl) (fun _ _ _ h=>h) (Or.inr ⟨?wd8,rfl⟩) hHeld ?rest8
    case hi8=>(simp only [List.getElem?_toArray,List.getElem?_cons_succ,List.getElem?_cons_zero];rfl)
    case wd8=>rfl
    (try simp only [Act.put,List.setIfInBounds_toArray,List.set_cons_zero,List.set_cons_succ])
    refine wpAnyH_take (i:=8) (oi:=?oi9) (v:=undef) ?hi9 (by kernel_rfl) (by kernel_rfl) (by kernel_rfl) (fun _ _ _ h=>h) (Or.inr ⟨?wd9,rfl⟩) hHeld ?rest9
    case hi9=>(simp only [List.getElem?_toArray,List.getElem?_cons_succ,List.getElem?_cons_zero];rfl)
    case wd9=>rfl
    (try simp only [Act.put,List.setIfInBounds_toArray,List.set_cons_zero,List.set_cons_succ])
    refine wpAnyH_take (i:=9) (oi:=?oi10) (v:=undef) ?hi10 (by kernel_rfl) (by kernel_rfl) (by kernel_rfl) (fun _ _ _ h=>h) (Or.inr ⟨?wd10,rfl⟩) hHeld ?rest10
    case hi10=>(simp only [List.getElem?_toArray,List.getElem?_cons_succ,List.getElem?_cons_zero];rfl)
    case wd10=>rfl
    (try simp only [Act.put,List.setIfInBounds_toArray,List.set_cons_zero,List.set_cons_succ])
    refine wpAnyH_take (i:=10) (oi:=?oi11) (v:=undef) ?hi11 (by kernel_rfl) (by kernel_rfl) (by kernel_rfl) (fun _ _ _ h=>h) (Or.inr ⟨?wd11,rfl⟩) hHeld ?rest11
    case hi11=>(simp only [List.getElem?_toArray,List.getElem?_cons_succ,List.getElem?_cons_zero];rfl)
    case wd11=>rfl
    (try simp only [Act.put,List.setIfInBounds_toArray,List.set_cons_zero,List.set_cons_succ])
    refine wpAnyH_take (i:=11) (oi:=?oi12) (v:=undef) ?hi12 (by kernel_rfl) (by kernel_rfl) (by kernel_rfl) (fun _ _ _ h=>h) (Or.inr ⟨?wd12,rfl⟩) hHeld ?rest12
    case hi12=>(simp only [List.getElem?_toArray,List.getElem?_cons_succ,List.getElem?_cons_zero];rfl)
    case wd12=>rfl
    (try simp only [Act.put,List.setIfInBounds_toArray,List.set_cons_zero,List.set_cons_succ])
    refine wpAnyH_take (i:=12) (oi:=?oi13) (v:=undef) ?hi13 (by kernel_rfl) (by kernel_rfl) (by kernel_rfl) (fun _ _ _ h=>h) (Or.inr ⟨?wd13,rfl⟩) hHeld ?rest13
    case hi13=>(simp only [List.getElem?_toArray,List.getElem?_cons_succ,List.getElem?_cons_zero];rfl)
    case wd13=>rfl
    (try simp only [Act.put,List.setIfInBounds_toArray,List.set_cons_zero,List.set_cons_succ])
    refine wpAnyH_take (i:=13) (oi:=?oi14) (v:=undef) ?hi14 (by kernel_rfl) (by kernel_rfl) (by kernel_rfl) (fun _ _ _ h=>h) (Or.inr ⟨?wd14,rfl⟩) hHeld ?rest14
    case hi14=>(simp only [List.getElem?_toArray,List.getElem?_cons_succ,List.getElem?_cons_zero];rfl)
    case wd14=>rfl
    (try simp only [Act.put,List.setIfInBounds_toArray,List.set_cons_zero,List.set_cons_succ])
    refine wpAnyH_take (i:=14) (oi:=?oi15) (v:=undef) ?hi15 (by kernel_rfl) (by kernel_rfl) (by kernel_rfl) (fun _ _ _ h=>h) (Or.inr ⟨?wd15,rfl⟩) hHeld ?rest15
    case hi15=>(simp only [List.getElem?_toArray,List.getElem?_cons_succ,List.getElem?_cons_zero];rfl)
    case wd15=>rfl
    (try simp only [Act.put,List.setIfInBounds_toArray,List.set_cons_zero,List.set_cons_succ])
    refine wpAnyH_take (i:=15) (oi:=?oi16) (v:=undef) ?hi16 (by kernel_rfl) (by kernel_rfl) (by kernel_rfl) (fun _ _ _ h=>h) (Or.inr ⟨?wd16,rfl⟩) hHeld ?rest16
    case hi16=>(simp only [List.getElem?_toArray,List.getElem?_cons_succ,List.getElem?_cons_zero];rfl)
    case wd16=>rfl
    (try simp only [Act.put,List.setIfInBounds_toArray,List.set_cons_zero,List.set_cons_succ])
    refine wpAnyH_take (i:=16) (oi:=?oi17) (v:=undef) ?hi17 (by kernel_rfl) (by kernel_rfl) (by kernel_rfl) (fun _ _ _ h=>h) (Or.inr ⟨?wd17,rfl⟩) hHeld ?rest17
    case hi17=>(simp only [List.getElem?_toArray,List.getElem?_cons_succ,List.getElem?_cons_zero];rfl)
    case wd17=>rfl
    (try simp only [Act.put,List.setIfInBounds_toArray,List.set_cons_zero,List.set_cons_succ])
    refine wpAnyH_take (i:=17) (oi:=?oi18) (v:=undef) ?hi18 (by kernel_rfl) (by kernel_rfl) (by kernel_rfl) (fun _ _ _ h=>h) (Or.inr ⟨?wd18,rfl⟩) hHeld ?rest18
    case hi18=>(simp only [List.getElem?_toArray,List.getElem?_cons_succ,List.getElem?_cons_zero];rfl)
    case wd18=>rfl
    (try simp only [Act.put,List.setIfInBounds_toArray,List.set_cons_zero,List.set_cons_succ])
    refine wpAnyH_take (i:=18) (oi:=?oi19) (v:=undef) ?hi19 (by kernel_rfl) (by kernel_rfl) (by kernel_rfl) (fun _ _ _ h=>h) (Or.inr ⟨?wd19,rfl⟩) hHeld ?rest19
    case hi19=>(simp only [List.getElem?_toArray,List.getElem?_cons_succ,List.getElem?_cons_zero];rfl)
    case wd19=>rfl
    (try simp only [Act.put,List.setIfInBounds_toArray,List.set_cons_zero,List.set_cons_succ])
    refine wpAnyH_take (i:=19) (oi:=?oi20) (v:=undef) ?hi20 (by kernel_rfl) (by kernel_rfl) (by kernel_rfl) (fun _ _ _ h=>h) (Or.inr ⟨?wd20,rfl⟩) hHeld ?rest20
    case hi20=>(simp only [List.getElem?_toArray,List.getElem?_cons_succ,List.getElem?_cons_zero];rfl)
    case wd20=>rfl
    (try simp only [Act.put,List.setIfInBounds_toArray,List.set_cons_zero,List.set_cons_succ])
    refine wpAnyH_take (i:=20) (oi:=?oi21) (v:=?v21) ?hi21 (by kernel_rfl) (by kernel_rfl) (by kernel_rfl) (fun _ _ _ h=>h) (Or.inl ⟨?wd21,?hy21⟩) hHeld ?rest21
    case hi21=>(simp only [List.getElem?_toArray,List.getElem?_cons_succ,List.getElem?_cons_zero];rfl)
    case wd21=>rfl
    case hy21=>(intro w hSw;(try dsimp only at hSw);go_simp;try with_reducible rfl)
    (try simp only [Act.put,List.setIfInBounds_toArray,List.set_cons_zero,List.set_cons_succ])
    refine wpAnyH_take (i:=21) (oi:=?oi22) (v:=?v22) ?hi22 (by kernel_rfl) (by kernel_rfl) (by kernel_rfl) (fun _ _ _ h=>h) (Or.inl ⟨?wd22,?hy22⟩) hHeld ?rest22
    case hi22=>(simp only [List.getElem?_toArray,List.getElem?_cons_succ,List.getElem?_cons_zero];rfl)
    case wd22=>rfl
    case hy22=>(intro w hSw;(try dsimp only at hSw);go_simp;try with_reducible rfl)
    (try simp only [Act.put,List.setIfInBounds_toArray,List.set_cons_zero,List.set_cons_succ])
    refine wpAnyH_done (by kernel_rfl) ?_ _
    refine NoPanic.normal ?_
    go_wp2
    go_ret
    exact ⟨zac HN.out.symm,((B2 _ _).trans (hb1.mono (by simp;omega))).drew.trans (hb'.mono (by have:=(B2 default default).size;have:=hb1.size;simp at *;omega))⟩
   ·rw [hs2] at hH2
    obtain ⟨r,u,er,hrl,hvr,hgr⟩:=zkj hs2
    obtain ⟨b2,o2,e2,g0,g1,g2⟩:=hv r u hvr
    cases e2
    have HN:Hid (zbv t f.slots=meets t.op v u):=show zbv t f.slots=_ from by simp [zbv,hg,ho,hgr]
    have hM:=hidA (fun w'=>ze6 v u t.op w')
    have y0:(0:Int)≤(r:Int):=by omega
    have y1:(r:Int)<(f.slots.length:Int):=by omega
    have y2:((r:Int) == -1)=false:=by simp
    rw [er] at hH2
    rw [es,er]
    rw [es] at hH1
    clear es hg hvs hv er hgr hvr ho
    go_enter Tryz.func108,Tryz.ntmps108
    go_wp2_with (go_at_call 139;refine (hH1.out _).mono ?_;rintro e w1 ⟨rfl,hb1⟩;have p0:w1.cell? ⟨w.heap.size,0,none⟩=some (.int .i64 (s:Int)):=zaa hb1 (by simp [go_sem]);have p1:w1.cell? ⟨w.heap.size,1,none⟩=some (.int .i64 t.op):=zaa hb1 (by simp [go_sem]);have p2:w1.cell? ⟨w.heap.size,2,none⟩=some (.int .i64 (r:Int)):=zaa hb1 (by simp [go_sem]);have p3:w1.cell? ⟨w.heap.size,3,none⟩=some (.int .i64 t.val.kind):=zaa hb1 (by simp [go_sem]);have p4:w1.cell? ⟨w.heap.size,4,none⟩=some (.int .i64 t.val.num):=zaa hb1 (by simp [go_sem]);have p5:w1.cell? ⟨w.heap.size,5,none⟩=some (.string t.val.sym):=zaa hb1 (by simp [go_sem]);have f0:w1.cell? ⟨w.heap.size+1,0,none⟩=some (.int .i64 f.tag):=zaa hb1 (by simp [go_sem]);have f1:w1.cell? ⟨w.heap.size+1,1,none⟩=some (.string f.cls):=zaa hb1 (by simp [go_sem]);have f2:w1.cell? ⟨w.heap.size+1,2,none⟩=some (.slice (some ⟨b,o,none⟩) f.slots.length c):=zaa hb1 (by simp [go_sem]);have x0:=zaa hb1 (zaa (B2 _ _) c0);have x1:=zaa hb1 (zaa (B2 _ _) c1);have x2:=zaa hb1 (zaa (B2 _ _) c2);have v0:=zaa hb1 (zaa (B2 _ _) g0);have v1:=zaa hb1 (zaa (B2 _ _) g1);have v2:=zaa hb1 (zaa (B2 _ _) g2))
    clear c0 c1 c2 g0 g1 g2 hs hs2 hsl hrl hH1 y2
    first
    | (go_region_held3 (fun w'=>w'.cell? ⟨w.heap.size,0,none⟩=some (.int .i64 (s:Int))∧w'.cell? ⟨w.heap.size,1,none⟩=some (.int .i64 t.op)∧w'.cell? ⟨w.heap.size,2,none⟩=some (.int .i64 (r:Int))∧w'.cell? ⟨w.heap.size,3,none⟩=some (.int .i64 t.val.kind)∧w'.cell? ⟨w.heap.size,4,none⟩=some (.int .i64 t.val.num)∧w'.cell? ⟨w.heap.size,5,none⟩=some (.string t.val.sym)∧w'.cell? ⟨w.heap.size+1,0,none⟩=some (.int .i64 f.tag)∧w'.cell? ⟨w.heap.size+1,1,none⟩=some (.string f.cls)∧w'.cell? ⟨w.heap.size+1,2,none⟩=some (.slice (some ⟨b,o,none⟩) f.slots.length c)∧w'.cell? ⟨b,o+s * 3,none⟩=some (.int .i64 v.kind)∧w'.cell? ⟨b,o+s * 3+1,none⟩=some (.int .i64 v.num)∧w'.cell? ⟨b,o+s * 3+2,none⟩=some (.string v.sym)∧w'.cell? ⟨b,o+r * 3,none⟩=some (.int .i64 u.kind)∧w'.cell? ⟨b,o+r * 3+1,none⟩=some (.int .i64 u.num)∧w'.cell? ⟨b,o+r * 3+2,none⟩=some (.string u.sym)) ((go_split_ands;refine ⟨?_,?_,?_,?_,?_,?_,?_,?_,?_,?_,?_,?_,?_,?_,?_⟩ <;> first | (simp [*];done) | exact zaa hb' (by assumption))) (first | (go_at_call 139;refine (hH2.out _).mono ?_;rintro e w' ⟨rfl,hb'⟩) | (go_at_call 97;refine (hM.out _).mono ?_;rintro e w'' ⟨rfl,hb''⟩;have hb0:=hb';have hb':=hb'') | fail))
    | fail
    go_wp2
    go_ret
    exact ⟨zac HN.out.symm,(((B2 _ _).trans (hb1.mono (by simp;omega))).drew.trans (hb0.mono (by have:=(B2 default default).size;have:=hb1.size;simp at *;omega))).trans (hb''.mono (by have:=(B2 default default).size;have:=hb1.size;have:=hb0.size;simp at *;omega))⟩
end Go.Proofs.YtmmdlgjmplddiaaGreat
namespace Go.Proofs.YtmmdlgjmplddiaaGreat
open Go.RowKit
theorem zjB {x:Al}{f:F} (h:¬ f.cls.toList=x.cls.toList):passes x f=false:=by simp [passes,h]
theorem zjk {x:Al}{f:F} (h:¬ (f.slots.length:Int)=x.arity):passes x f=false:=by simp [passes,h]
theorem zjG {x:Al}{f:F} (h:f.cls.toList=x.cls.toList) (h':(f.slots.length:Int)=x.arity):passes x f=x.tests.all (fun t=>zbv t f.slots):=by simp [passes,h,h']
def zl1 (w:World) (b:Nat) (f:F) (a:Option Addr) (c:Nat):Prop:=w.cell? ⟨b,0,none⟩=some (.int .i64 f.tag)∧w.cell? ⟨b,1,none⟩=some (.string f.cls)∧w.cell? ⟨b,2,none⟩=some (.slice a f.slots.length c)
theorem zl1.below {w w':World}{b:Nat}{f:F}{a:Option Addr}{c:Nat} (h:zl1 w b f a c) (hb:Below w.heap.size w w'):zl1 w' b f a c:=⟨zaa hb h.1,zaa hb h.2.1,zaa hb h.2.2⟩
set_option maxHeartbeats 1600000 in
theorem zlj (x:Al) (a_tests:Option Addr) (c_tests:Nat) (f:F) (a:Option Addr) (c:Nat) {q:Option Nat} (w:World) (ht:zcE q w a_tests x.tests) (hv:zaY w a f.slots) (hl:x.tests.length≤1048576) :
  Calls Tryz.prog 70 #[.agg #[.string x.cls,.int .i64 x.arity,.slice a_tests x.tests.length c_tests],.agg #[.int .i64 f.tag,.string f.cls,.slice a f.slots.length c]] w fun e w'=>
   e=.returned (.bool (passes x f))∧Below w.heap.size w w':=by
 have B2:∀ o o1,Below w.heap.size w ((w.alloc o).alloc o1):=fun o o1=>((Below.refl _ _).alloc (Nat.le_refl _) _).alloc (by simp) _
 by_cases hc:f.cls.toList=x.cls.toList
 ·by_cases hn:(f.slots.length:Int)=x.arity
  ·have HG0:Hid (passes x f=x.tests.all (fun t=>zbv t f.slots)):=zjG hc hn
   have hn':((f.slots.length:Int) != x.arity)=false:=by simp [hn]
   go_enter Tryz.func70,Tryz.ntmps70
   go_wp2
   clear hc hn hn'
   go_loopw [23] (fun i wr=>∃ (k:Nat),k≤x.tests.length∧i=.int .i64 k∧passes x f=(x.tests.drop k).all (fun t=>zbv t f.slots)∧zl1 wr (w.heap.size+1) f a c∧Below w.heap.size w wr) (fun i _=>x.tests.length - (intOf i).toNat)
   case atStart=>exact ⟨0,by omega,rfl,HG0.out,by refine ⟨?_,?_,?_⟩ <;> simp [go_sem],B2 _ _⟩
   case round=>
    obtain ⟨k,hk,rfl,hG,hbox,hb⟩:=hrel
    have HG:=hidA hG
    have HBX:=hidA hbox
    clear hG
    by_cases hkl:k<x.tests.length
    ·obtain ⟨t,htk⟩:∃ t,x.tests[k]?=some t:=⟨x.tests[k],by simp [hkl]⟩
     obtain ⟨b,o,rfl,hq,c0,c1,c2,c3,c4,c5⟩:=(ht.below hb).get htk
     have HD:Hid (x.tests.drop k=t :: x.tests.drop (k+1)):=zan htk
     have B1:∀ o,Below wr.heap.size wr (wr.alloc o):=fun o=>(Below.refl _ _).alloc (Nat.le_refl _) _
     have hV:=hidA (fun o=>(hv.below hb).below (B1 o))
     have hT:=hidA (fun w' h=>zjh t f a c w' h)
     have q0:∀ o,(wr.alloc o).cell? ⟨w.heap.size+1,0,none⟩=_:=fun o=>zaa (B1 o) hbox.1
     have q1:∀ o,(wr.alloc o).cell? ⟨w.heap.size+1,1,none⟩=_:=fun o=>zaa (B1 o) hbox.2.1
     have q2:∀ o,(wr.alloc o).cell? ⟨w.heap.size+1,2,none⟩=_:=fun o=>zaa (B1 o) hbox.2.2
     clear hbox
     cases hth:zbv t f.slots
     all_goals
      rw [hth] at hT
      go_wp2_with (go_at_call 108;refine (hT.out _ (hV.out _)).mono ?_;rintro e w1 ⟨rfl,hb1⟩)
     ·go_ret
      exact ⟨zac (by rw [HG.out,HD.out,List.all_cons,hth];rfl),hb.trans (((B1 _).trans (hb1.mono (by simp))).mono hb.size)⟩
     ·go_roundw
      case rel=>exact ⟨k+1,by omega,by go_num,by rw [HG.out,HD.out,List.all_cons,hth];rfl,HBX.out.below ((B1 _).trans (hb1.mono (by simp))),hb.trans (((B1 _).trans (hb1.mono (by simp))).mono hb.size)⟩
      case measure=>simp [intOf];omega
    ·go_wp2
     go_ret
     exact ⟨zac (by rw [HG.out,List.drop_eq_nil_of_le (by omega)];rfl),hb⟩
  ·have HN:Hid (passes x f=false):=zjk hn
   have hn':((f.slots.length:Int) != x.arity)=true:=by simp [hn]
   go_enter Tryz.func70,Tryz.ntmps70
   go_wp2
   go_ret
   exact ⟨zac HN.out.symm,B2 _ _⟩
 ·have HN:Hid (passes x f=false):=zjB hc
  go_enter Tryz.func70,Tryz.ntmps70
  go_wp2
  go_ret
  exact ⟨zac HN.out.symm,B2 _ _⟩
end Go.Proofs.YtmmdlgjmplddiaaGreat
namespace Go.Proofs.YtmmdlgjmplddiaaGreat
open Go.RowKit
attribute [local go_sem ↓] Go.wp_at_zero Go.wp_at_succ
structure NdAt (w:World) (nb:Nat) (x:Al) (a:Option Addr) (c:Nat):Prop where
 c0:w.cell? ⟨nb,0,none⟩=some (.string x.cls)
 c1:w.cell? ⟨nb,1,none⟩=some (.int .i64 x.arity)
 c2:w.cell? ⟨nb,2,none⟩=some (.slice a x.tests.length c)
 tt:zcE none w a x.tests
theorem NdAt.below {w w':World}{nb:Nat}{x:Al}{a:Option Addr}{c:Nat} (h:NdAt w nb x a c) (hb:Below w.heap.size w w'):NdAt w' nb x a c:=⟨zaa hb h.c0,zaa hb h.c1,zaa hb h.c2,h.tt.below hb⟩
set_option maxHeartbeats 3200000 in
theorem zdz (nb:Nat) (x:Al) (a:Option Addr) (c:Nat) (pf:Value) (f:F) (w:World) (hN:NdAt w nb x a c) (hF:zcs w pf f) (hl:x.tests.length≤1048576) :
  Calls Tryz.prog 94 #[.pointer (some ⟨nb,0,none⟩),pf] w fun e w'=>e=.returned (.bool (passes x f))∧Below w.heap.size w w':=by
 obtain ⟨c0,c1,c2,htt⟩:=hN
 obtain ⟨b,o,rfl,f0,f1,sa,sc,f2,hsv⟩:=hF
 have HC:=hidP (fun w' (h:Below w.heap.size w w')=>zlj x a c f sa sc w' (htt.below h) (hsv.below h) hl)
 have D:=hidP (Below.refl w.heap.size w)
 clear htt hsv
 go_enter Tryz.func94,Tryz.ntmps94
 go_wp2_with fail
 go_region_held3 (fun w'=>w'.cell? ⟨nb,0,none⟩=some (.string x.cls)∧w'.cell? ⟨nb,1,none⟩=some (.int .i64 x.arity)∧w'.cell? ⟨nb,2,none⟩=some (.slice a x.tests.length c)∧w'.cell? ⟨b,o,none⟩=some (.int .i64 f.tag)∧w'.cell? ⟨b,o+1,none⟩=some (.string f.cls)∧w'.cell? ⟨b,o+2,none⟩=some (.slice sa f.slots.length sc)∧Below w.heap.size w w') ((go_split_ands;refine ⟨?_,?_,?_,?_,?_,?_,?_⟩ <;> first | (simp [*];done) | exact D.out.drew | exact zaa hb' (by assumption) | exact Below.trans (by assumption) (Below.mono hb' (Below.size (by assumption))))) (first | (go_at_call 70;refine (HC.out _ (by first | exact D.out.drew | assumption)).mono ?_;rintro e w' ⟨rfl,hb'⟩) | fail)
 rename_i hh
 have D9:=hidP hh.2.2.2.2.2.2
 clear hh
 go_wp2_with fail
 go_ret
 exact ⟨rfl,D9.out⟩
structure Cn where
 neg:Bool
 at_:Nat
 node:Nat
 tests:List Jt
 alpha:Al
 facts:List F
structure CnR (w:World) (c:Cn) (ta:Option Addr):Prop where
 tests:zdM w ta c.tests
 node:∃ a n,NdAt w c.node c.alpha a n
 facts:∃ fa fc,w.cell? ⟨c.node,4,none⟩=some (.slice fa c.facts.length fc)∧zhp w fa c.facts
theorem CnR.below {w w':World}{c:Cn}{ta:Option Addr} (h:CnR w c ta) (hb:Below w.heap.size w w'):CnR w' c ta:=by
 obtain ⟨h1,⟨a,n,h2⟩,fa,fc,h3,h4⟩:=h
 exact ⟨h1.below hb,⟨a,n,h2.below hb⟩,fa,fc,zaa hb h3,h4.below hb⟩
def zjj (w:World) (a:Option Addr) (cs:List Cn):Prop:=∀ (i:Nat) (c:Cn),cs[i]?=some c→∃ b o ta tc,a=some ⟨b,o,none⟩∧w.cell? ⟨b,o+i * 4,none⟩=some (.bool c.neg)∧w.cell? ⟨b,o+i * 4+1,none⟩=some (.int .i64 (c.at_:Int))∧w.cell? ⟨b,o+i * 4+2,none⟩=some (.pointer (some ⟨c.node,0,none⟩))∧w.cell? ⟨b,o+i * 4+3,none⟩=some (.slice ta c.tests.length tc)∧CnR w c ta
theorem zjj.below {w w':World}{a:Option Addr}{cs:List Cn} (h:zjj w a cs) (hb:Below w.heap.size w w'):zjj w' a cs:=by
 intro i c hi
 obtain ⟨b,o,ta,tc,e,h0,h1,h2,h3,h4⟩:=h i c hi
 exact ⟨b,o,ta,tc,e,zaa hb h0,zaa hb h1,zaa hb h2,zaa hb h3,h4.below hb⟩
def okC (T:List F) (c:Cn):Bool:=
 if c.neg=true then !(c.facts.any (fun f=>c.tests.all (zaI T f)))
 else (match T[c.at_]? with | some f=>passes c.alpha f && c.tests.all (zaI T f) | none=>false)
theorem zk0 {T:List F}{c:Cn} (h:c.neg=true):okC T c=!(c.facts.any (fun f=>c.tests.all (zaI T f))):=if_pos h
theorem zni {T:List F}{c:Cn}{f:F} (h:c.neg=false) (hf:T[c.at_]?=some f):okC T c=(passes c.alpha f && c.tests.all (zaI T f)):=by
 unfold okC
 rw [if_neg (by rw [h];simp),hf]
def fitC (T:List F) (c:Cn):Prop:=(c.neg=true→∀ f∈c.facts,∀ t∈c.tests,t.fits T f)∧(c.neg=false→∃ f,T[c.at_]?=some f∧(passes c.alpha f=true→∀ t∈c.tests,t.fits T f))
def zmK (c:Cn):Prop:=c.tests.length≤1048576∧c.facts.length≤1048576∧c.alpha.tests.length≤1048576
set_option maxRecDepth 100000 in
set_option maxHeartbeats 12800000 in
theorem zgu (cs:List Cn) (a:Option Addr) (cc:Nat) (vs p0 p1 p2:Value) (T:List F) (w:World) (h_c:zjj w a cs) (h_T:zdb w p0 p1 p2 T) (hl:cs.length≤1048576) (hsm:∀ c∈cs,zmK c) (hfit:∀ k c,cs[k]?=some c→(∀ c'∈cs.take k,okC T c'=true)→fitC T c) :
  Calls Tryz.prog 63 #[.agg #[.slice a cs.length cc,vs],.agg #[p0,p1,p2]] w fun e w'=>e=.returned (.bool (cs.all (okC T)))∧Below w.heap.size w w':=by
 have HC:=hidP h_c
 have HT:=hidP h_T
 have HS:=hidP hsm
 have HF:=hidP hfit
 clear h_c h_T hsm hfit
 go_enter Tryz.func63,Tryz.ntmps63
 go_upto_region 1 with fail
 refine lift2P ?_
 intro w0 hW0 hq0 hq1
 have c0:w0.cell? ⟨w.heap.size,0,none⟩=some (.slice a cs.length cc):=by simp [World.cell?,hq0]
 obtain ⟨t0,t1,t2⟩:=cells3P hq1
 have H0:=hidP hW0
 have hl0:w.heap.size+1<w0.heap.size:=zab hq1
 clear hW0 hq0 hq1
 go_wp2_with fail
 clear c0
 go_loopw [10] (fun iv wr=>∃ (k:Nat),iv=.int .i64 (k:Int)∧k≤cs.length∧(∀ c'∈cs.take k,okC T c'=true)∧Below w0.heap.size w0 wr) (fun iv _=>cs.length - (intOf iv).toNat)
 case atStart=>exact ⟨0,rfl,Nat.zero_le _,by simp,Below.refl _ _⟩
 case round=>
  obtain ⟨k,rfl,hkl,hG,hb⟩:=hrel
  have HG:=hidP hG
  have HBB:=hidP hb
  have HBW:=hidP (H0.out.trans (hb.mono H0.out.size))
  have hsr:=hb.size
  clear hG hb
  by_cases hk:k<cs.length
  ·obtain ⟨c,hc⟩:∃ c,cs[k]?=some c:=⟨cs[k],by simp [hk]⟩
   obtain ⟨jb,jo,ta,tc,rfl,j0,j1,j2,j3,hR⟩:=(HC.out.below HBW.out) k c hc
   have CR:=hidP hR
   have HFC:=hidP (HF.out k c hc HG.out)
   obtain ⟨hs1,hs2,hs3⟩:=HS.out c (List.mem_of_getElem? hc)
   have HNO:=hidP (fun (h:okC T c=false)=>(show cs.all (okC T)=false by rw [List.all_eq_false];exact ⟨c,List.mem_of_getElem? hc,by rw [h];simp⟩))
   have HNXT:=hidP (fun (h:okC T c=true)=>(show ∀ c'∈cs.take (k+1),okC T c'=true by intro c' hc';rw [List.take_add_one,hc] at hc';rcases List.mem_append.1 hc' with h' | h';exact HG.out c' h';simp at h';subst h';exact h))
   have r0:=zaa HBB.out t0
   have r1:=zaa HBB.out t1
   have r2:=zaa HBB.out t2
   have z0:(0:Int)≤(k:Int):=by omega
   have z1:(k:Int)<(cs.length:Int):=by omega
   clear hc hR HG
   go_upto_region 4 with fail
   refine zaj ?_
   intro w2 hW2 hq2
   obtain ⟨d0,d1,d2,d3⟩:=cells4P hq2
   have q0:=zaa hW2 r0
   have q1:=zaa hW2 r1
   have q2:=zaa hW2 r2
   have C2:=hidP (CR.out.below hW2)
   have D2:=hidP (HBB.out.trans (hW2.mono HBB.out.size))
   have W2:=hidP (HBW.out.trans (hW2.mono HBW.out.size))
   have T2:=hidP (HT.out.below W2.out)
   have hs2':=hW2.size
   have hlb:wr.heap.size<w2.heap.size:=zab hq2
   clear hW2 hq2 r0 r1 r2 j0 j1 j2 j3 HBB HBW CR
   rcases (show c.neg=true∨c.neg=false by cases c.neg <;> simp) with hneg | hneg
   ·obtain ⟨fa,fc,hn4,hfp⟩:=C2.out.facts
    have HB:=hidP (zge (.bool c.neg) (.int .i64 (c.at_:Int)) p0 p1 p2 c.node c.tests ta tc T c.facts fa fc w2 hn4 C2.out.tests T2.out hfp hs1 hs2 (HFC.out.1 hneg))
    rw [hneg] at HB d0
    cases hm:c.facts.any (fun f=>c.tests.all (zaI T f))
    ·have HN:=hidP (HNXT.out (by rw [zk0 hneg,hm];rfl))
     rw [hm] at HB
     clear hm hneg hn4 hfp
     go_wp2_with fail
     refine HB.out.mono ?_
     rintro e w3 ⟨rfl,hb3⟩
     have D3:=hidP (D2.out.trans (hb3.mono D2.out.size))
     have d0':=zaa hb3 d0
     have d1':=zaa hb3 d1
     have d2':=zaa hb3 d2
     have d3':=zaa hb3 d3
     have q0':=zaa hb3 q0
     have q1':=zaa hb3 q1
     have q2':=zaa hb3 q2
     clear hb3 HB
     go_wp2_with fail
     go_region
     go_wp2_with fail
     go_roundw
     case rel=>exact ⟨k+1,by go_num,by omega,HN.out,D3.out.drew⟩
     case measure=>(simp [intOf];omega)
    ·have HN:=hidP (HNO.out (by rw [zk0 hneg,hm];rfl))
     rw [hm] at HB
     clear hm hneg hn4 hfp
     go_wp2_with fail
     refine HB.out.mono ?_
     rintro e w3 ⟨rfl,hb3⟩
     have D3:=hidP (D2.out.trans (hb3.mono D2.out.size))
     clear hb3 HB
     go_wp2_with fail
     go_ret
     exact ⟨zac HN.out.symm,H0.out.trans (D3.out.mono H0.out.size)⟩
   ·obtain ⟨f,hf,hfi⟩:=HFC.out.2 hneg
    obtain ⟨pv,hpv,hpf⟩:=T2.out _ f hf
    obtain ⟨na,nn,hnd⟩:=C2.out.node
    have ha3:c.at_<3:=by
     by_cases h:c.at_<3
     ·exact h
     ·rw [List.getElem?_eq_none (by simp;omega)] at hpv
      cases hpv
    have tp:w2.cell? ⟨w.heap.size+1,c.at_,none⟩=some pv:=by
     rcases hat:c.at_ with _ | _ | _ | n
     ·rw [hat] at hpv;simp at hpv;rw [← hpv];exact q0
     ·rw [hat] at hpv;simp at hpv;rw [← hpv];exact q1
     ·rw [hat] at hpv;simp at hpv;rw [← hpv];exact q2
     ·omega
    have HP:=hidP (fun w' (h:Below w2.heap.size w2 w')=>zdz c.node c.alpha na nn pv f w' (hnd.below h) (hpf.below h) hs3)
    have HA:=hidP (fun (hp:passes c.alpha f=true) w' (h:Below w2.heap.size w2 w')=>zd6 (.bool c.neg) (.int .i64 (c.at_:Int)) (.pointer (some ⟨c.node,0,none⟩)) p0 p1 p2 pv c.tests ta tc T f w' (C2.out.tests.below h) (T2.out.below h) (hpf.below h) hs1 (hfi hp))
    rw [hneg] at HA d0
    have HOK:=hidP (zni hneg hf)
    have R2:=hidP (Below.refl w2.heap.size w2)
    have y0:(0:Int)≤(c.at_:Int):=by omega
    have y1:(c.at_:Int)<3:=by omega
    clear hneg hf hfi hpv hpf hnd
    cases hm:passes c.alpha f
    ·have HN:=hidP (HNO.out (by rw [HOK.out,hm];rfl))
     rw [hm] at HP
     clear hm HA
     go_wp2_with fail
     refine wp_region_noPanic ?_
     refine wp_region_held_drew (S:=(fun w'=>w'.cell? ⟨wr.heap.size,0,none⟩=some (.bool false)∧w'.cell? ⟨wr.heap.size,1,none⟩=some (.int .i64 (c.at_:Int))∧w'.cell? ⟨wr.heap.size,2,none⟩=some (.pointer (some ⟨c.node,0,none⟩))∧w'.cell? ⟨wr.heap.size,3,none⟩=some (.slice ta c.tests.length tc)∧w'.cell? ⟨w.heap.size+1,c.at_,none⟩=some pv∧w'.cell? ⟨w.heap.size+1,0,none⟩=some p0∧w'.cell? ⟨w.heap.size+1,1,none⟩=some p1∧w'.cell? ⟨w.heap.size+1,2,none⟩=some p2∧w2.heap.size≤w'.heap.size∧Below w2.heap.size w2 w')) (by kernel_rfl) ?_ (fun hHeld=>?_)
     ·(try dsimp only)
      (go_split_ands;refine ⟨?_,?_,?_,?_,?_,?_,?_,?_,?_,?_⟩ <;> first | (simp [*];done) | exact R2.out.drew | exact zaa hb' (by assumption) | exact Below.trans (by assumption) (Below.mono hb' (by omega)) | omega)
     refine tk 0 hHeld ?_
     (try simp only [pA,pZ,pS])
     refine tk 1 hHeld ?_
     (try simp only [pA,pZ,pS])
     refine tk 2 hHeld ?_
     (try simp only [pA,pZ,pS])
     refine tk 3 hHeld ?_
     (try simp only [pA,pZ,pS])
     refine tk 4 hHeld ?_
     (try simp only [pA,pZ,pS])
     refine tk 5 hHeld ?_
     (try simp only [pA,pZ,pS])
     refine tk 6 hHeld ?_
     (try simp only [pA,pZ,pS])
     refine tk 7 hHeld ?_
     (try simp only [pA,pZ,pS])
     refine tk 8 hHeld ?_
     (try simp only [pA,pZ,pS])
     refine tk 9 hHeld ?_
     (try simp only [pA,pZ,pS])
     refine wpAnyH_ready (rs:=[10]) (by kernel_rfl) (by simp) ?_
     refine AllReadyH.cons (o:=?o1) ?ho1 (fun K hK=>?step1) AllReadyH.nil
     case ho1=>(simp only [List.getElem?_toArray,List.getElem?_cons_succ,List.getElem?_cons_zero];rfl)
     go_simp
     (go_at_call 94;refine (HP.out _ (by first | exact R2.out.drew | exact hHeld.2.2.2.2.2.2.2.2.2)).mono ?_;rintro e w' ⟨rfl,hb'⟩;have hsz':=hb'.size)
     (try go_wp2_with fail)
     refine hK.out _ _ ?hS1 (fun hHeld'=>?rest1)
     case hS1=>((try dsimp only);(go_split_ands;refine ⟨?_,?_,?_,?_,?_,?_,?_,?_,?_,?_⟩ <;> first | (simp [*];done) | exact R2.out.drew | exact zaa hb' (by assumption) | exact Below.trans (by assumption) (Below.mono hb' (by omega)) | omega))
     clear hK K
     (first | simp only [pA,pZ,pS] | simp only [pN] | skip)
     clear hHeld
     have hHeld:=hHeld'
     clear hHeld'
     refine tk 11 hHeld ?_
     (try simp only [pA,pZ,pS])
     refine tk 12 hHeld ?_
     refine tn 13 hHeld ?_
     refine tn 14 hHeld ?_
     refine tn 15 hHeld ?_
     (try simp only [pA,pZ,pS])
     refine tn 16 hHeld ?_
     refine tn 17 hHeld ?_
     refine tn 18 hHeld ?_
     refine tn 19 hHeld ?_
     (try simp only [pA,pZ,pS])
     refine tn 20 hHeld ?_
     (try simp only [pA,pZ,pS])
     refine tk 21 hHeld ?_
     (try simp only [pA,pZ,pS])
     refine tk 22 hHeld ?_
     (try simp only [pA,pZ,pS])
     refine wpAnyH_done (by kernel_rfl) ?_ _
     refine NoPanic.normal ?_
     have hh:=hHeld
     clear hHeld
     have D9:=hidP hh.2.2.2.2.2.2.2.2.2
     clear hh
     go_wp2_with fail
     go_ret
     exact ⟨zac HN.out.symm,H0.out.trans ((D2.out.trans (D9.out.mono D2.out.size)).mono H0.out.size)⟩
    ·replace HA:=hidP (HA.out hm)
     cases hm2:c.tests.all (zaI T f)
     ·have HN:=hidP (HNO.out (by rw [HOK.out,hm,hm2];rfl))
      rw [hm] at HP
      rw [hm2] at HA
      clear hm hm2
      go_wp2_with fail
      refine wp_region_noPanic ?_
      refine wp_region_held_drew (S:=(fun w'=>w'.cell? ⟨wr.heap.size,0,none⟩=some (.bool false)∧w'.cell? ⟨wr.heap.size,1,none⟩=some (.int .i64 (c.at_:Int))∧w'.cell? ⟨wr.heap.size,2,none⟩=some (.pointer (some ⟨c.node,0,none⟩))∧w'.cell? ⟨wr.heap.size,3,none⟩=some (.slice ta c.tests.length tc)∧w'.cell? ⟨w.heap.size+1,c.at_,none⟩=some pv∧w'.cell? ⟨w.heap.size+1,0,none⟩=some p0∧w'.cell? ⟨w.heap.size+1,1,none⟩=some p1∧w'.cell? ⟨w.heap.size+1,2,none⟩=some p2∧w2.heap.size≤w'.heap.size∧Below w2.heap.size w2 w')) (by kernel_rfl) ?_ (fun hHeld=>?_)
      ·(try dsimp only)
       (go_split_ands;refine ⟨?_,?_,?_,?_,?_,?_,?_,?_,?_,?_⟩ <;> first | (simp [*];done) | exact R2.out.drew | exact zaa hb' (by assumption) | exact Below.trans (by assumption) (Below.mono hb' (by omega)) | omega)
      refine tk 0 hHeld ?_
      (try simp only [pA,pZ,pS])
      refine tk 1 hHeld ?_
      (try simp only [pA,pZ,pS])
      refine tk 2 hHeld ?_
      (try simp only [pA,pZ,pS])
      refine tk 3 hHeld ?_
      (try simp only [pA,pZ,pS])
      refine tk 4 hHeld ?_
      (try simp only [pA,pZ,pS])
      refine tk 5 hHeld ?_
      (try simp only [pA,pZ,pS])
      refine tk 6 hHeld ?_
      (try simp only [pA,pZ,pS])
      refine tk 7 hHeld ?_
      (try simp only [pA,pZ,pS])
      refine tk 8 hHeld ?_
      (try simp only [pA,pZ,pS])
      refine tk 9 hHeld ?_
      (try simp only [pA,pZ,pS])
      refine wpAnyH_ready (rs:=[10]) (by kernel_rfl) (by simp) ?_
      refine AllReadyH.cons (o:=?o2) ?ho2 (fun K hK=>?step2) AllReadyH.nil
      case ho2=>(simp only [List.getElem?_toArray,List.getElem?_cons_succ,List.getElem?_cons_zero];rfl)
      go_simp
      (go_at_call 94;refine (HP.out _ (by first | exact R2.out.drew | exact hHeld.2.2.2.2.2.2.2.2.2)).mono ?_;rintro e w' ⟨rfl,hb'⟩;have hsz':=hb'.size)
      (try go_wp2_with fail)
      refine hK.out _ _ ?hS2 (fun hHeld'=>?rest2)
      case hS2=>((try dsimp only);(go_split_ands;refine ⟨?_,?_,?_,?_,?_,?_,?_,?_,?_,?_⟩ <;> first | (simp [*];done) | exact R2.out.drew | exact zaa hb' (by assumption) | exact Below.trans (by assumption) (Below.mono hb' (by omega)) | omega))
      clear hK K
      (first | simp only [pA,pZ,pS] | simp only [pN] | skip)
      clear hHeld
      have hHeld:=hHeld'
      clear hHeld'
      refine tk 11 hHeld ?_
      (try simp only [pA,pZ,pS])
      refine tk 12 hHeld ?_
      (try simp only [pA,pZ,pS])
      refine tk 13 hHeld ?_
      (try simp only [pA,pZ,pS])
      refine tk 14 hHeld ?_
      (try simp only [pA,pZ,pS])
      refine tk 15 hHeld ?_
      (try simp only [pA,pZ,pS])
      refine tk 16 hHeld ?_
      (try simp only [pA,pZ,pS])
      refine tk 17 hHeld ?_
      (try simp only [pA,pZ,pS])
      refine tk 18 hHeld ?_
      (try simp only [pA,pZ,pS])
      refine wpAnyH_ready (rs:=[19]) (by kernel_rfl) (by simp) ?_
      refine AllReadyH.cons (o:=?o3) ?ho3 (fun K hK=>?step3) AllReadyH.nil
      case ho3=>(simp only [List.getElem?_toArray,List.getElem?_cons_succ,List.getElem?_cons_zero];rfl)
      go_simp
      (go_at_call 59;refine (HA.out _ (by first | exact R2.out.drew | exact hHeld.2.2.2.2.2.2.2.2.2)).mono ?_;rintro e w' ⟨rfl,hb'⟩;have hsz':=hb'.size)
      (try go_wp2_with fail)
      refine hK.out _ _ ?hS3 (fun hHeld'=>?rest3)
      case hS3=>((try dsimp only);(go_split_ands;refine ⟨?_,?_,?_,?_,?_,?_,?_,?_,?_,?_⟩ <;> first | (simp [*];done) | exact R2.out.drew | exact zaa hb' (by assumption) | exact Below.trans (by assumption) (Below.mono hb' (by omega)) | omega))
      clear hK K
      (first | simp only [pA,pZ,pS] | simp only [pN] | skip)
      clear hHeld
      have hHeld:=hHeld'
      clear hHeld'
      refine tk 20 hHeld ?_
      (try simp only [pA,pZ,pS])
      refine tk 21 hHeld ?_
      (try simp only [pA,pZ,pS])
      refine tk 22 hHeld ?_
      (try simp only [pA,pZ,pS])
      refine wpAnyH_done (by kernel_rfl) ?_ _
      refine NoPanic.normal ?_
      have hh:=hHeld
      clear hHeld
      have D9:=hidP hh.2.2.2.2.2.2.2.2.2
      clear hh
      go_wp2_with fail
      go_ret
      exact ⟨zac HN.out.symm,H0.out.trans ((D2.out.trans (D9.out.mono D2.out.size)).mono H0.out.size)⟩
     ·have HN:=hidP (HNXT.out (by rw [HOK.out,hm,hm2];rfl))
      rw [hm] at HP
      rw [hm2] at HA
      clear hm hm2
      go_wp2_with fail
      refine wp_region_noPanic ?_
      refine wp_region_held_drew (S:=(fun w'=>w'.cell? ⟨wr.heap.size,0,none⟩=some (.bool false)∧w'.cell? ⟨wr.heap.size,1,none⟩=some (.int .i64 (c.at_:Int))∧w'.cell? ⟨wr.heap.size,2,none⟩=some (.pointer (some ⟨c.node,0,none⟩))∧w'.cell? ⟨wr.heap.size,3,none⟩=some (.slice ta c.tests.length tc)∧w'.cell? ⟨w.heap.size+1,c.at_,none⟩=some pv∧w'.cell? ⟨w.heap.size+1,0,none⟩=some p0∧w'.cell? ⟨w.heap.size+1,1,none⟩=some p1∧w'.cell? ⟨w.heap.size+1,2,none⟩=some p2∧w2.heap.size≤w'.heap.size∧Below w2.heap.size w2 w')) (by kernel_rfl) ?_ (fun hHeld=>?_)
      ·(try dsimp only)
       (go_split_ands;refine ⟨?_,?_,?_,?_,?_,?_,?_,?_,?_,?_⟩ <;> first | (simp [*];done) | exact R2.out.drew | exact zaa hb' (by assumption) | exact Below.trans (by assumption) (Below.mono hb' (by omega)) | omega)
      refine tk 0 hHeld ?_
      (try simp only [pA,pZ,pS])
      refine tk 1 hHeld ?_
      (try simp only [pA,pZ,pS])
      refine tk 2 hHeld ?_
      (try simp only [pA,pZ,pS])
      refine tk 3 hHeld ?_
      (try simp only [pA,pZ,pS])
      refine tk 4 hHeld ?_
      (try simp only [pA,pZ,pS])
      refine tk 5 hHeld ?_
      (try simp only [pA,pZ,pS])
      refine tk 6 hHeld ?_
      (try simp only [pA,pZ,pS])
      refine tk 7 hHeld ?_
      (try simp only [pA,pZ,pS])
      refine tk 8 hHeld ?_
      (try simp only [pA,pZ,pS])
      refine tk 9 hHeld ?_
      (try simp only [pA,pZ,pS])
      refine wpAnyH_ready (rs:=[10]) (by kernel_rfl) (by simp) ?_
      refine AllReadyH.cons (o:=?o4) ?ho4 (fun K hK=>?step4) AllReadyH.nil
      case ho4=>(simp only [List.getElem?_toArray,List.getElem?_cons_succ,List.getElem?_cons_zero];rfl)
      go_simp
      (go_at_call 94;refine (HP.out _ (by first | exact R2.out.drew | exact hHeld.2.2.2.2.2.2.2.2.2)).mono ?_;rintro e w' ⟨rfl,hb'⟩;have hsz':=hb'.size)
      (try go_wp2_with fail)
      refine hK.out _ _ ?hS4 (fun hHeld'=>?rest4)
      case hS4=>((try dsimp only);(go_split_ands;refine ⟨?_,?_,?_,?_,?_,?_,?_,?_,?_,?_⟩ <;> first | (simp [*];done) | exact R2.out.drew | exact zaa hb' (by assumption) | exact Below.trans (by assumption) (Below.mono hb' (by omega)) | omega))
      clear hK K
      (first | simp only [pA,pZ,pS] | simp only [pN] | skip)
      clear hHeld
      have hHeld:=hHeld'
      clear hHeld'
      refine tk 11 hHeld ?_
      (try simp only [pA,pZ,pS])
      refine tk 12 hHeld ?_
      (try simp only [pA,pZ,pS])
      refine tk 13 hHeld ?_
      (try simp only [pA,pZ,pS])
      refine tk 14 hHeld ?_
      (try simp only [pA,pZ,pS])
      refine tk 15 hHeld ?_
      (try simp only [pA,pZ,pS])
      refine tk 16 hHeld ?_
      (try simp only [pA,pZ,pS])
      refine tk 17 hHeld ?_
      (try simp only [pA,pZ,pS])
      refine tk 18 hHeld ?_
      (try simp only [pA,pZ,pS])
      refine wpAnyH_ready (rs:=[19]) (by kernel_rfl) (by simp) ?_
      refine AllReadyH.cons (o:=?o5) ?ho5 (fun K hK=>?step5) AllReadyH.nil
      case ho5=>(simp only [List.getElem?_toArray,List.getElem?_cons_succ,List.getElem?_cons_zero];rfl)
      go_simp
      (go_at_call 59;refine (HA.out _ (by first | exact R2.out.drew | exact hHeld.2.2.2.2.2.2.2.2.2)).mono ?_;rintro e w' ⟨rfl,hb'⟩;have hsz':=hb'.size)
      (try go_wp2_with fail)
      refine hK.out _ _ ?hS5 (fun hHeld'=>?rest5)
      case hS5=>((try dsimp only);(go_split_ands;refine ⟨?_,?_,?_,?_,?_,?_,?_,?_,?_,?_⟩ <;> first | (simp [*];done) | exact R2.out.drew | exact zaa hb' (by assumption) | exact Below.trans (by assumption) (Below.mono hb' (by omega)) | omega))
      clear hK K
      (first | simp only [pA,pZ,pS] | simp only [pN] | skip)
      clear hHeld
      have hHeld:=hHeld'
      clear hHeld'
      refine tk 20 hHeld ?_
      (try simp only [pA,pZ,pS])
      refine tk 21 hHeld ?_
      (try simp only [pA,pZ,pS])
      refine tk 22 hHeld ?_
      (try simp only [pA,pZ,pS])
      refine wpAnyH_done (by kernel_rfl) ?_ _
      refine NoPanic.normal ?_
      have hh:=hHeld
      clear hHeld
      have D9:=hidP hh.2.2.2.2.2.2.2.2.2
      clear hh
      go_wp2_with fail
      go_roundw
      case rel=>exact ⟨k+1,by go_num,by omega,HN.out,D2.out.trans (D9.out.mono D2.out.size)⟩
      case measure=>(simp [intOf];omega)
  ·have hke:k=cs.length:=by omega
   subst hke
   have HN:=hidP (show cs.all (okC T)=true by rw [List.all_eq_true];have:=HG.out;rwa [List.take_length] at this)
   have hy:¬ (cs.length:Int)<(cs.length:Int):=by omega
   go_wp2_with fail
   go_ret
   exact ⟨zac HN.out.symm,HBW.out⟩
end Go.Proofs.YtmmdlgjmplddiaaGreat
namespace Go.Proofs.YtmmdlgjmplddiaaGreat
open Go.RowKit
structure Bd where
 var:ByteArray
 val:V
def Bd.R (_:World) (r:List Value) (x:Bd):Prop:=r=[.string x.var,.int .i64 x.val.kind,.int .i64 x.val.num,.string x.val.sym]
abbrev zcS (q:Option Nat) (w:World) (a:Option Addr) (xs:List Bd):Prop:=zaJ Bd.R q 220 4 w a xs
theorem zcS.below {q:Option Nat}{w w':World}{a:Option Addr}{xs:List Bd} (h:zcS q w a xs) (hb:Below w.heap.size w w'):zcS q w' a xs:=zaJ.below h (fun _ _ _ h=>h) hb
theorem zcS.low {B:Nat}{w w':World}{a:Option Addr}{xs:List Bd} (h:zcS (some B) w a xs) (hb:Low B w w'):zcS (some B) w' a xs:=zaJ.low h (fun _ _ _ h=>h) hb
theorem zcS.get {q:Option Nat}{w:World}{a:Option Addr}{xs:List Bd}{i:Nat}{x:Bd} (h:zcS q w a xs) (hi:xs[i]?=some x):∃ b o,a=some ⟨b,o,none⟩∧Qb q w 220 b∧w.cell? ⟨b,o+i * 4,none⟩=some (.string x.var)∧w.cell? ⟨b,o+i * 4+1,none⟩=some (.int .i64 x.val.kind)∧w.cell? ⟨b,o+i * 4+2,none⟩=some (.int .i64 x.val.num)∧w.cell? ⟨b,o+i * 4+3,none⟩=some (.string x.val.sym):=by
 obtain ⟨b,o,r,h1,h2,h3,h4,h5⟩:=h i x hi
 subst h5
 exact ⟨b,o,h1,h2,h4 0 _ rfl,h4 1 _ rfl,h4 2 _ rfl,h4 3 _ rfl⟩
def Bd.le (N:Nat) (x:Bd):Prop:=x.var.size≤N∧x.val.sym.size≤N
end Go.Proofs.YtmmdlgjmplddiaaGreat
namespace Go.Proofs.YtmmdlgjmplddiaaGreat
def zbl (bs:List Bd) (s:ByteArray):Option V:=
 match bs with
 | []=>none
 | b :: r=>if b.var=s then some b.val else zbl r s
theorem zcd (b:Bd) (r:List Bd) (s:ByteArray):zbl (b :: r) s=if b.var=s then some b.val else zbl r s:=rfl
end Go.Proofs.YtmmdlgjmplddiaaGreat
namespace Go.Proofs.YtmmdlgjmplddiaaGreat
def zVm:V:=(0,0,⟨#[]⟩)
def agT (out:List Bd) (t:Tm) (v:V):Option (List Bd):=
 if t.kind=1 then (if v=t.val then some out else none)
 else if t.kind=2 then (match zbl out t.var with | some old=>if old=v then some out else none | none=>some (out ++ [⟨t.var,v⟩]))
 else if t.kind=3 then (if meets t.op v (if t.var=⟨#[]⟩ then t.val else (zbl out t.var).getD zVm)=true then some out else none)
 else some out
def agGo:List Bd→List Tm→List V→Option (List Bd)
 | out,[],_=>some out
 | out,_ :: _,[]=>some out
 | out,t :: ts,v :: vs=>(match agT out t v with | some o=>agGo o ts vs | none=>none)
def agree (p:Pt) (f:F) (bs:List Bd):Option (List Bd):=if p.cls=f.cls∧p.terms.length=f.slots.length then agGo bs p.terms f.slots else none
theorem zdS (out:List Bd) (t:Tm) (ts:List Tm) (v:V) (vs:List V):agGo out (t :: ts) (v :: vs)=(match agT out t v with | some o=>agGo o ts vs | none=>none):=rfl
theorem zkG {out o:List Bd}{t:Tm}{ts:List Tm}{v:V}{vs:List V} (h:agT out t v=some o):agGo out (t :: ts) (v :: vs)=agGo o ts vs:=by rw [zdS,h]
theorem zk3 {out:List Bd}{t:Tm}{ts:List Tm}{v:V}{vs:List V} (h:agT out t v=none):agGo out (t :: ts) (v :: vs)=none:=by rw [zdS,h]
theorem zns {out o:List Bd}{t:Tm}{v:V} (h:agT out t v=some o):o.length≤out.length+1:=by
 unfold agT at h
 split at h
 ·split at h
  ·injection h with h;subst h;omega
  ·cases h
 ·split at h
  ·split at h
   ·split at h
    ·injection h with h;subst h;omega
    ·cases h
   ·injection h with h;subst h;simp
  ·split at h
   ·by_cases hm:meets t.op v (if t.var=⟨#[]⟩ then t.val else (zbl out t.var).getD zVm)=true
    ·rw [if_pos hm] at h;injection h with h;subst h;omega
    ·rw [if_neg hm] at h;cases h
   ·injection h with h;subst h;omega
structure Pm where
 tags:List Int
 binds:List Bd
def hits (p:Pt) (x:Pm):List F→List Pm
 | []=>[]
 | f :: r=>(match agree p f x.binds with | some bs=>[⟨x.tags ++ [f.tag],bs⟩] | none=>[]) ++ hits p x r
def zck (p:Pt) (fs:List F) (x:Pm):List Pm:=if p.neg=true then (if (hits p x fs).length=0 then [x] else []) else hits p x fs
def zbg (p:Pt) (fs:List F) (xs:List Pm):List Pm:=xs.flatMap (zck p fs)
def allM:List Pt→List F→List Pm→Nat→List Pm × Nat
 | [],_,xs,n=>(xs,n)
 | p :: ps,fs,xs,n=>allM ps fs (zbg p fs xs) (n+(zbg p fs xs).length)
theorem zdl (p:Pt) (x:Pm) (f:F):∀ l:List F,hits p x (l ++ [f])=hits p x l ++ (match agree p f x.binds with | some bs=>[⟨x.tags ++ [f.tag],bs⟩] | none=>[])
 | []=>by simp [hits]
 | g :: r=>by
  simp only [List.cons_append,hits]
  rw [zdl p x f r,List.append_assoc]
theorem zeQ (p:Pt) (x:Pm):∀ l:List F,(hits p x l).length≤l.length
 | []=>Nat.le_refl _
 | f :: r=>by
  have:=zeQ p x r
  simp only [hits,List.length_append,List.length_cons]
  split <;> simp <;> omega
theorem zjM (p:Pt) (fs:List F) (x:Pm):(zck p fs x).length≤fs.length+1:=by
 have:=zeQ p x fs
 unfold zck
 split
 ·split <;> simp
 ·omega
end Go.Proofs.YtmmdlgjmplddiaaGreat
namespace Go.Proofs.YtmmdlgjmplddiaaGreat
def zdx (T:List F) (v:Vr):V:=(((T[v.fact]?.map (·.slots)).getD [])[v.slot]?.getD (0,0,⟨#[]⟩))
def envB (T:List F) (vs:List Vr):List Bd:=vs.map (fun v=>⟨v.name,zdx T v⟩)
theorem zcW (T:List F) (s:ByteArray):∀ vs:List Vr,zbl (envB T vs) s=(zaV vs s).map (zdx T)
 | []=>rfl
 | v :: r=>by
  have ih:=zcW T s r
  unfold envB at ih ⊢
  rw [List.map_cons,zcd,zcY]
  by_cases h:v.name=s
  ·rw [if_pos h,if_pos h];rfl
  ·rw [if_neg h,if_neg h];exact ih
theorem zdh (s:ByteArray) (b:List Bd):∀ a:List Bd,zbl (a ++ b) s=(match zbl a s with | some x=>some x | none=>zbl b s)
 | []=>rfl
 | x :: r=>by
  rw [List.cons_append,zcd,zcd]
  by_cases h:x.var=s
  ·rw [if_pos h,if_pos h]
  ·rw [if_neg h,if_neg h];exact zdh s b r
theorem zd4 (name:ByteArray) (t:Tm):∀ (l:List Tm) (k:Nat),za9 name (l ++ [t]) k=(match za9 name l k with | some j=>some j | none=>if zeZ name t=true then some (k+l.length) else none)
 | [],k=>by
  rw [List.nil_append,zbk]
  simp [za9]
 | x :: r,k=>by
  rw [List.cons_append,zbk,zbk]
  by_cases h:zeZ name x=true
  ·rw [if_pos h,if_pos h]
  ·rw [if_neg h,if_neg h,zd4 name t r (k+1),List.length_cons,show k+1+r.length=k+(r.length+1) by omega]
theorem zbt {ts:List Tm}{i:Nat}{t:Tm} (h:ts[i]?=some t) (name:ByteArray):earlier ts (i+1) name=(match earlier ts i name with | some j=>some j | none=>if zeZ name t=true then some i else none):=by
 have hi:i<ts.length:=(List.getElem?_eq_some_iff.1 h).1
 unfold earlier
 rw [List.take_add_one,h]
 show za9 name (ts.take i ++ [t]) 0=_
 rw [zd4]
 simp [Nat.min_eq_left (Nat.le_of_lt hi)]
def newB (bs:List Bd) (ts:List Tm) (sl:List V):Nat→List Bd
 | 0=>[]
 | i+1=>newB bs ts sl i ++ (match ts[i]?,sl[i]? with | some t,some v=>if t.kind=2∧zbl bs t.var=none∧earlier ts i t.var=none then [⟨t.var,v⟩] else [] | _,_=>[])
theorem zdW {bs:List Bd}{ts:List Tm}{sl:List V}{i:Nat}{t:Tm}{v:V} (h:ts[i]?=some t) (hv:sl[i]?=some v):newB bs ts sl (i+1)=newB bs ts sl i ++ (if t.kind=2∧zbl bs t.var=none∧earlier ts i t.var=none then [⟨t.var,v⟩] else []):=by
 simp [newB,h,hv]
theorem zbn {name:ByteArray}{t:Tm}:zeZ name t=true ↔ t.kind=2∧t.var=name:=by
 unfold zeZ
 rw [zaM]
 simp
theorem zcG {name:ByteArray}:∀ {l:List Tm}{s k:Nat},za9 name l s=some k→k<s+l.length
 | [],_,_,h=>by simp [za9] at h
 | t :: r,s,k,h=>by
  rw [zbk] at h
  split at h
  ·injection h with h
   subst h
   simp
  ·have:=zcG h
   simp
   omega
theorem zfY {bs:List Bd}{ts:List Tm}{sl:List V} (hl:ts.length=sl.length) {name:ByteArray} (hn:zbl bs name=none):∀ i,i≤ts.length→zbl (newB bs ts sl i) name=(earlier ts i name).bind (fun j=>sl[j]?)
 | 0,_=>by simp [newB,zbl,earlier,za9]
 | i+1,hi=>by
  obtain ⟨t,ht⟩:∃ t,ts[i]?=some t:=⟨ts[i],by simp⟩
  obtain ⟨v,hv⟩:∃ v,sl[i]?=some v:=⟨sl[i],by simp⟩
  have ih:=zfY hl hn i (by omega)
  rw [zdW ht hv,zdh,ih,zbt ht]
  cases he:earlier ts i name with
  | some j=>
   have hj:j<ts.length:=by
    have:=zcG he
    simp at this
    omega
   simp [show j<sl.length by omega]
  | none=>
   simp only [Option.bind_none]
   by_cases h2:zeZ name t=true
   ·obtain ⟨k2,kv⟩:=zbn.1 h2
    subst kv
    rw [if_pos ⟨k2,hn,he⟩,if_pos h2,zcd,if_pos rfl]
    simp [hv]
   ·rw [if_neg h2]
    by_cases h3:t.kind=2∧zbl bs t.var=none∧earlier ts i t.var=none
    ·rw [if_pos h3,zcd,if_neg (fun e=>h2 (zbn.2 ⟨h3.1,e⟩))]
     rfl
    ·rw [if_neg h3]
     rfl
end Go.Proofs.YtmmdlgjmplddiaaGreat
namespace Go.Proofs.YtmmdlgjmplddiaaGreat
open Go.RowKit
attribute [local go_sem ↓] Go.wp_at_zero Go.wp_at_succ
theorem hidB {p:Prop} (h:p):Hid p:=h
def bdV (o:Option V):Value:=match o with
 | some v=>.tuple #[.agg #[.int .i64 v.kind,.int .i64 v.num,.string v.sym],.bool true]
 | none=>.tuple #[.agg #[.int .i64 0,.int .i64 0,.string ⟨#[]⟩],.bool false]
def Bx3 (w:World) (b:Nat) (t:TypeId) (x0 x1 x2:Value):Prop:=w.heap[b]?=some (.cells #[x0,x1,x2] t (0,0))
theorem Bx3.facts {w:World}{b:Nat}{t:TypeId}{x0 x1 x2:Value} (h:Bx3 w b t x0 x1 x2):(w.cell? ⟨b,0,none⟩=some x0∧w.cell? ⟨b,1,none⟩=some x1∧w.cell? ⟨b,2,none⟩=some x2) ∧
  (w.frozen? ⟨b,0,none⟩=false∧w.frozen? ⟨b,1,none⟩=false∧w.frozen? ⟨b,2,none⟩=false)∧b<w.heap.size:=by
 unfold Bx3 at h
 refine ⟨⟨?_,?_,?_⟩,⟨?_,?_,?_⟩,zab h⟩ <;> simp [World.cell?,World.frozen?,h]
set_option maxHeartbeats 800000 in
theorem zgf (s:ByteArray) (a:Option Addr) (c:Nat) (bs:List Bd) {q:Option Nat} (w:World) (hv:zcS q w a bs) (hl:bs.length≤1048576) :
  Calls Tryz.prog 129 #[.slice a bs.length c,.string s] w fun e w'=>e=.returned (bdV (zbl bs s))∧Below w.heap.size w w':=by
 have B0:∀ o,Below w.heap.size w (w.alloc o):=fun o=>(Below.refl _ _).alloc (Nat.le_refl _) _
 go_enter Tryz.func129,Tryz.ntmps129
 go_wp2
 go_loopw [10] (fun i wr=>∃ (k:Nat),k≤bs.length∧i=.int .i64 k∧zbl bs s=zbl (bs.drop k) s∧Bx3 wr w.heap.size 109 (.int .i64 0) (.int .i64 0) (.string ⟨#[]⟩)∧Below w.heap.size w wr) (fun i _=>bs.length - (intOf i).toNat)
 case atStart=>exact ⟨0,by omega,rfl,rfl,heap_alloc_new _ _,B0 _⟩
 case round=>
  obtain ⟨k,hk,rfl,hG,hbx,hb⟩:=hrel
  have HG:=hidB hG
  have HBX:=hidB hbx
  clear hG hbx
  obtain ⟨⟨f0,f1,f2⟩,⟨z0,z1,z2⟩,hlt⟩:=HBX.out.facts
  by_cases hkl:k<bs.length
  ·obtain ⟨x,hxk⟩:∃ x,bs[k]?=some x:=⟨bs[k],by simp [hkl]⟩
   obtain ⟨b,o,rfl,hq,c0,c1,c2,c3⟩:=(hv.below hb).get hxk
   have HD:Hid (bs.drop k=x :: bs.drop (k+1)):=zan hxk
   have B1:∀ o,Below w.heap.size w (wr.alloc o):=fun o=>hb.alloc hb.size _
   cases e1:(x.var.toList==s.toList)
   ·have HN:Hid (zbl bs s=zbl (bs.drop (k+1)) s):=show zbl bs s=_ from by
     rw [zaM] at e1
     have:¬ x.var=s:=fun h=>by subst h;simp at e1
     rw [HG.out,HD.out,zcd,if_neg this]
    have HR1:Hid (∀ o,Bx3 (wr.alloc o) w.heap.size 109 (.int .i64 0) (.int .i64 0) (.string ⟨#[]⟩)):=show ∀ o,Bx3 (wr.alloc o) w.heap.size 109 (.int .i64 0) (.int .i64 0) (.string ⟨#[]⟩) from fun o=>(((Below.refl _ _).alloc (Nat.le_refl _) o).block _ hlt).trans HBX.out
    go_wp2
    go_roundw
    case rel=>exact ⟨k+1,by omega,by go_num,HN.out,HR1.out _,B1 _⟩
    case measure=>simp [intOf];omega
   ·have HN:Hid (zbl bs s=some x.val):=show zbl bs s=_ from by
     rw [zaM] at e1
     have:x.var=s:=by simpa using e1
     rw [HG.out,HD.out,zcd,if_pos this]
    go_wp2
    refine bodyPost_ret (v:=bdV (some x.val)) (by simp [results,Tryz.results129,go_sem,f0,f1,f2,hlt,bdV]) rfl ⟨by rw [HN.out],?_⟩
    exact (((hb.setCell (by simp) _).setCell (by simp) _).setCell (by simp) _).alloc (by simp;exact hb.size) _
  ·have HN:Hid (zbl bs s=none):=show zbl bs s=_ from by rw [HG.out,List.drop_eq_nil_of_le (by omega)];rfl
   go_wp2
   refine bodyPost_ret (v:=bdV none) (by simp [results,Tryz.results129,go_sem,f0,f1,f2,bdV]) rfl ⟨by rw [HN.out],?_⟩
   exact ((hb.setCell (by simp) _).setCell (by simp) _).setCell (by simp) _
end Go.Proofs.YtmmdlgjmplddiaaGreat
