/-
  OUR OWN TEXT. The model's side of the checker: an operation, its parts do not meet (written by gensc4.py).
-/
import Derived.Test.YtmmdlgjmplddiaaGreatHba
import Derived.Test.YtmmdlgjmplddiaaGreatHah
namespace Go.Proofs.YtmmdlgjmplddiaaGreat
open Go.RowKit
attribute [local go_sem ↓] Go.wp_at_zero Go.wp_at_succ
theorem zjz {p:Prop} (h:p):Hid p:=h
set_option maxHeartbeats 3200000 in
theorem zhj (a:Option Addr) (c:Nat) (es:List Ex) (S:List Sp) (e:Ex) (w:World) {q:Option Nat} (hv:za8 q w a es) (hl:es.length≤60) (he:es[S.length]?=some e) (ho0:0≤e.op) (ho1:e.op<256) (k2:e.kind=2) (har:isAr e.op=true) (hva:e.var.toList.isEmpty=true) (hz:zaZ e.val=true) (hS:Spans es S) (bn:Nat) (hbn:bn+1=S.length) (heb:e.b=(bn:Int)) (sb:Sp) (hsb:S[bn]?=some sb) (ha0:¬ e.a<0) (hd:(e.a==(sb.1:Int) - 1)=false) :
  Calls Tryz.prog 143 #[.slice a es.length c,.int .i64 (S.length:Int)] w fun e' w'=>e'=.returned (.bool false)∧Below w.heap.size w w':=by
 have hkl:S.length<es.length:=(List.getElem?_eq_some_iff.1 he).1
 have B1:∀ o,Below w.heap.size w (w.alloc o):=fun o=>(Below.refl _ _).alloc (Nat.le_refl _) _
 have B3:∀ o o1 o2,Below w.heap.size w (((w.alloc o).drew.alloc o1).alloc o2):=fun o o1 o2=>((B1 o).drew.alloc (by simp) _).alloc (by simp;omega) _
 have hv0:=hv
 obtain ⟨b,o,rfl,hq,c0,c1,c2,c3,c4,c5,c6,c7⟩:=hv.get he
 have hcv:=zcl e.op
 have hIs:=zjz (zdc e.op ho0 ho1)
 rw [har] at hIs
 have hZ:=zjz (fun w=>zbz e.val w)
 rw [hz] at hZ
 have hbi:(e.b != (S.length:Int) - 1)=false:=by simp [heb];omega
 have hw:IntKind.i64.wrap ((S.length:Int) - 1)=(S.length:Int) - 1:=by rw [IntKind.wrap_i64];omega
 have hb0d:decide (e.b<0)=false:=decide_eq_false (by omega)
 have ha0d:decide (e.a<0)=false:=decide_eq_false ha0
 have hfl:=hS.first_le bn sb hsb
 have hw2:IntKind.i64.wrap ((sb.1:Int) - 1)=(sb.1:Int) - 1:=by rw [IntKind.wrap_i64];omega
 have hF0:∀ w',za8 q w' (some ⟨b,o,none⟩) es→Calls Tryz.prog 146 #[.slice (some ⟨b,o,none⟩) es.length c,.int .i64 e.b] w' fun e w''=>e=.returned (.int .i64 (sb.1:Int))∧w''=w':=fun w' h=>by
  rw [heb]
  exact zbQ (some ⟨b,o,none⟩) c es S bn sb w' h hS hsb
 have hF:=zjz hF0
 clear hF0
 clear heb hsb hfl hbn hS
 rw [k2] at c0
 clear hq hv
 have h1:(e.op==0)=false:=by
  cases h:(e.op==0)
  ·rfl
  ·have h0:e.op=0:=by simpa using h
   rw [h0] at har
   exact absurd har (by decide)
 go_enter Tryz.func143,Tryz.ntmps143
 go_wp2
 clear c0 c1 c2 c3 c4 c5 c6 c7 he
 (try clear h3);(try clear h2);clear h1
 refine wp_region_noPanic ?_
 refine wp_region_held_drew (S:=(fun w'=>w'.cell? ⟨w.heap.size,0,none⟩=some (.int .i64 2)∧w'.cell? ⟨w.heap.size,1,none⟩=some (.int .u8 e.op)∧w'.cell? ⟨w.heap.size,2,none⟩=some (.string e.var)∧w'.cell? ⟨w.heap.size,3,none⟩=some (.int .i64 e.val.kind)∧w'.cell? ⟨w.heap.size,4,none⟩=some (.int .i64 e.val.num)∧w'.cell? ⟨w.heap.size,5,none⟩=some (.string e.val.sym)∧w'.cell? ⟨w.heap.size,6,none⟩=some (.int .i64 e.a)∧w'.cell? ⟨w.heap.size,7,none⟩=some (.int .i64 e.b))) (by kernel_rfl) ?_ (fun hHeld=>?_)
 ·(try dsimp only)
  (go_split_ands;refine ⟨?_,?_,?_,?_,?_,?_,?_,?_⟩ <;> first | (simp [go_sem];done) | exact zaa hb' (by assumption))
 refine tk 0 hHeld ?_
 (try simp only [pA,pZ,pS])
 refine tk 1 hHeld ?_
 (try simp only [pA,pZ,pS])
 refine wpAnyH_ready (rs:=[2,4]) (by kernel_rfl) (by simp) (AllReadyH.cons (List.getElem?_toArray.trans rfl) (fun K hK=>?_) (AllReadyH.cons (List.getElem?_toArray.trans rfl) (fun K hK=>?_) AllReadyH.nil))
 ·go_simp
  refine hK.out _ _ ?hS112 (fun hHeld=>?_)
  case hS112=>((try dsimp only);(go_split_ands;refine ⟨?_,?_,?_,?_,?_,?_,?_,?_⟩ <;> first | (simp [go_sem];done) | exact zaa hb' (by assumption)))
  clear hK K
  (first | simp only [pA,pZ,pS] | simp only [pN] | skip)
  refine wpAnyH_ready (rs:=[3,4]) (by kernel_rfl) (by simp) (AllReadyH.cons (List.getElem?_toArray.trans rfl) (fun K hK=>?_) (AllReadyH.cons (List.getElem?_toArray.trans rfl) (fun K hK=>?_) AllReadyH.nil))
  ·go_simp
   refine hK.out _ _ ?hS113 (fun hHeld=>?_)
   case hS113=>((try dsimp only);(go_split_ands;refine ⟨?_,?_,?_,?_,?_,?_,?_,?_⟩ <;> first | (simp [go_sem];done) | exact zaa hb' (by assumption)))
   clear hK K
   (first | simp only [pA,pZ,pS] | simp only [pN] | skip)
   refine wpAnyH_ready (rs:=[4]) (by kernel_rfl) (by simp) (AllReadyH.cons (List.getElem?_toArray.trans rfl) (fun K hK=>?_) AllReadyH.nil)
   go_simp
   (go_at_call 166;refine (zal _).mono ?_;rintro e' w' ⟨rfl,rfl⟩)
   (try go_wp2_with fail)
   refine hK.out _ _ ?hS114 (fun hHeld=>?_)
   case hS114=>((try dsimp only);(go_split_ands;refine ⟨?_,?_,?_,?_,?_,?_,?_,?_⟩ <;> first | (simp [go_sem];done) | exact zaa hb' (by assumption)))
   clear hK K
   (first | simp only [pA,pZ,pS] | simp only [pN] | skip)
   refine wpAnyH_ready (rs:=[5]) (by kernel_rfl) (by simp) (AllReadyH.cons (List.getElem?_toArray.trans rfl) (fun K hK=>?_) AllReadyH.nil)
   go_simp
   (go_at_call 145;refine (hIs.out _ _ ?_).mono ?_;(first | exact za6 _ _ _ (by simp) | exact za7 _ _ _ _ (by simp));rintro e' w' ⟨rfl,rfl⟩)
   (try go_wp2_with fail)
   refine hK.out _ _ ?hS115 (fun hHeld=>?_)
   case hS115=>((try dsimp only);(go_split_ands;refine ⟨?_,?_,?_,?_,?_,?_,?_,?_⟩ <;> first | (simp [go_sem];done) | exact zaa hb' (by assumption)))
   clear hK K
   (first | simp only [pA,pZ,pS] | simp only [pN] | skip)
   refine tk 6 hHeld ?_
   (try simp only [pA,pZ,pS])
   refine tk 7 hHeld ?_
   (try simp only [pA,pZ,pS])
   refine tk 8 hHeld ?_
   (try simp only [pA,pZ,pS])
   refine tk 9 hHeld ?_
   (try simp only [pA,pZ,pS])
   refine tk 10 hHeld ?_
   (try simp only [pA,pZ,pS])
   refine tk 11 hHeld ?_
   (try simp only [pA,pZ,pS])
   refine tk 12 hHeld ?_
   (try simp only [pA,pZ,pS])
   refine tk 13 hHeld ?_
   (try simp only [pA,pZ,pS])
   refine tk 14 hHeld ?_
   (try simp only [pA,pZ,pS])
   refine wpAnyH_ready (rs:=[15]) (by kernel_rfl) (by simp) (AllReadyH.cons (List.getElem?_toArray.trans rfl) (fun K hK=>?_) AllReadyH.nil)
   go_simp
   (go_at_call 109;refine (hZ.out _).mono ?_;rintro e' w' ⟨rfl,hb'⟩)
   (try go_wp2_with fail)
   refine hK.out _ _ ?hS116 (fun hHeld=>?_)
   case hS116=>((try dsimp only);(go_split_ands;refine ⟨?_,?_,?_,?_,?_,?_,?_,?_⟩ <;> first | (simp [go_sem];done) | exact zaa hb' (by assumption)))
   clear hK K
   (first | simp only [pA,pZ,pS] | simp only [pN] | skip)
   refine tk 16 hHeld ?_
   (try simp only [pA,pZ,pS])
   refine tk 17 hHeld ?_
   (try simp only [pA,pZ,pS])
   refine tk 18 hHeld ?_
   (try simp only [pA,pZ,pS])
   refine tk 19 hHeld ?_
   (try simp only [pA,pZ,pS])
   refine tk 20 hHeld ?_
   (try simp only [pA,pZ,pS])
   refine tk 21 hHeld ?_
   (try simp only [pA,pZ,pS])
   refine tk 22 hHeld ?_
   (try simp only [pA,pZ,pS])
   refine tk 23 hHeld ?_
   (try simp only [pA,pZ,pS])
   refine tk 24 hHeld ?_
   (try simp only [pA,pZ,pS])
   refine tk 25 hHeld ?_
   (try simp only [pA,pZ,pS])
   refine tk 26 hHeld ?_
   (try simp only [pA,pZ,pS])
   refine tk 27 hHeld ?_
   (try simp only [pA,pZ,pS])
   refine tk 28 hHeld ?_
   (try simp only [pA,pZ,pS])
   refine tk 29 hHeld ?_
   (try simp only [pA,pZ,pS])
   refine tk 30 hHeld ?_
   (try simp only [pA,pZ,pS])
   refine tk 31 hHeld ?_
   (try simp only [pA,pZ,pS])
   refine tk 32 hHeld ?_
   (try simp only [pA,pZ,pS])
   refine tk 33 hHeld ?_
   (try simp only [pA,pZ,pS])
   refine tk 34 hHeld ?_
   (try simp only [pA,pZ,pS])
   refine wpAnyH_done (by kernel_rfl) ?_ _
   refine NoPanic.normal ?_
   obtain ⟨y0,y1,y2,y3,y4,y5,y6,y7⟩:=hHeld
   have hBz:Below w.heap.size w w':=(B3 _ _ _).trans (hb'.mono (by simp;omega))
   have hE:=zjz (hv0.below hBz)
   clear hb' hv0
   go_wp2
   go_quiet (first | (go_at_call 146;refine Calls.quiet_of_same (hF.out _ (hE.out.below ?_));exact zaO (Below.refl _ _)))
   go_wp2
   go_ret
   exact ⟨rfl,zaO hBz⟩
  ·go_simp
   (go_at_call 166;refine (zal _).mono ?_;rintro e' w' ⟨rfl,rfl⟩)
   (try go_wp2_with fail)
   refine hK.out _ _ ?hS117 (fun hHeld=>?_)
   case hS117=>((try dsimp only);(go_split_ands;refine ⟨?_,?_,?_,?_,?_,?_,?_,?_⟩ <;> first | (simp [go_sem];done) | exact zaa hb' (by assumption)))
   clear hK K
   (first | simp only [pA,pZ,pS] | simp only [pN] | skip)
   refine wpAnyH_ready (rs:=[3]) (by kernel_rfl) (by simp) (AllReadyH.cons (List.getElem?_toArray.trans rfl) (fun K hK=>?_) AllReadyH.nil)
   go_simp
   refine hK.out _ _ ?hS118 (fun hHeld=>?_)
   case hS118=>((try dsimp only);(go_split_ands;refine ⟨?_,?_,?_,?_,?_,?_,?_,?_⟩ <;> first | (simp [go_sem];done) | exact zaa hb' (by assumption)))
   clear hK K
   (first | simp only [pA,pZ,pS] | simp only [pN] | skip)
   refine wpAnyH_ready (rs:=[5]) (by kernel_rfl) (by simp) (AllReadyH.cons (List.getElem?_toArray.trans rfl) (fun K hK=>?_) AllReadyH.nil)
   go_simp
   (go_at_call 145;refine (hIs.out _ _ ?_).mono ?_;(first | exact za6 _ _ _ (by simp) | exact za7 _ _ _ _ (by simp));rintro e' w' ⟨rfl,rfl⟩)
   (try go_wp2_with fail)
   refine hK.out _ _ ?hS119 (fun hHeld=>?_)
   case hS119=>((try dsimp only);(go_split_ands;refine ⟨?_,?_,?_,?_,?_,?_,?_,?_⟩ <;> first | (simp [go_sem];done) | exact zaa hb' (by assumption)))
   clear hK K
   (first | simp only [pA,pZ,pS] | simp only [pN] | skip)
   refine tk 6 hHeld ?_
   (try simp only [pA,pZ,pS])
   refine tk 7 hHeld ?_
   (try simp only [pA,pZ,pS])
   refine tk 8 hHeld ?_
   (try simp only [pA,pZ,pS])
   refine tk 9 hHeld ?_
   (try simp only [pA,pZ,pS])
   refine tk 10 hHeld ?_
   (try simp only [pA,pZ,pS])
   refine tk 11 hHeld ?_
   (try simp only [pA,pZ,pS])
   refine tk 12 hHeld ?_
   (try simp only [pA,pZ,pS])
   refine tk 13 hHeld ?_
   (try simp only [pA,pZ,pS])
   refine tk 14 hHeld ?_
   (try simp only [pA,pZ,pS])
   refine wpAnyH_ready (rs:=[15]) (by kernel_rfl) (by simp) (AllReadyH.cons (List.getElem?_toArray.trans rfl) (fun K hK=>?_) AllReadyH.nil)
   go_simp
   (go_at_call 109;refine (hZ.out _).mono ?_;rintro e' w' ⟨rfl,hb'⟩)
   (try go_wp2_with fail)
   refine hK.out _ _ ?hS120 (fun hHeld=>?_)
   case hS120=>((try dsimp only);(go_split_ands;refine ⟨?_,?_,?_,?_,?_,?_,?_,?_⟩ <;> first | (simp [go_sem];done) | exact zaa hb' (by assumption)))
   clear hK K
   (first | simp only [pA,pZ,pS] | simp only [pN] | skip)
   refine tk 16 hHeld ?_
   (try simp only [pA,pZ,pS])
   refine tk 17 hHeld ?_
   (try simp only [pA,pZ,pS])
   refine tk 18 hHeld ?_
   (try simp only [pA,pZ,pS])
   refine tk 19 hHeld ?_
   (try simp only [pA,pZ,pS])
   refine tk 20 hHeld ?_
   (try simp only [pA,pZ,pS])
   refine tk 21 hHeld ?_
   (try simp only [pA,pZ,pS])
   refine tk 22 hHeld ?_
   (try simp only [pA,pZ,pS])
   refine tk 23 hHeld ?_
   (try simp only [pA,pZ,pS])
   refine tk 24 hHeld ?_
   (try simp only [pA,pZ,pS])
   refine tk 25 hHeld ?_
   (try simp only [pA,pZ,pS])
   refine tk 26 hHeld ?_
   (try simp only [pA,pZ,pS])
   refine tk 27 hHeld ?_
   (try simp only [pA,pZ,pS])
   refine tk 28 hHeld ?_
   (try simp only [pA,pZ,pS])
   refine tk 29 hHeld ?_
   (try simp only [pA,pZ,pS])
   refine tk 30 hHeld ?_
   (try simp only [pA,pZ,pS])
   refine tk 31 hHeld ?_
   (try simp only [pA,pZ,pS])
   refine tk 32 hHeld ?_
   (try simp only [pA,pZ,pS])
   refine tk 33 hHeld ?_
   (try simp only [pA,pZ,pS])
   refine tk 34 hHeld ?_
   (try simp only [pA,pZ,pS])
   refine wpAnyH_done (by kernel_rfl) ?_ _
   refine NoPanic.normal ?_
   obtain ⟨y0,y1,y2,y3,y4,y5,y6,y7⟩:=hHeld
   have hBz:Below w.heap.size w w':=(B3 _ _ _).trans (hb'.mono (by simp;omega))
   have hE:=zjz (hv0.below hBz)
   clear hb' hv0
   go_wp2
   go_quiet (first | (go_at_call 146;refine Calls.quiet_of_same (hF.out _ (hE.out.below ?_));exact zaO (Below.refl _ _)))
   go_wp2
   go_ret
   exact ⟨rfl,zaO hBz⟩
 ·go_simp
  (go_at_call 166;refine (zal _).mono ?_;rintro e' w' ⟨rfl,rfl⟩)
  (try go_wp2_with fail)
  refine hK.out _ _ ?hS121 (fun hHeld=>?_)
  case hS121=>((try dsimp only);(go_split_ands;refine ⟨?_,?_,?_,?_,?_,?_,?_,?_⟩ <;> first | (simp [go_sem];done) | exact zaa hb' (by assumption)))
  clear hK K
  (first | simp only [pA,pZ,pS] | simp only [pN] | skip)
  refine wpAnyH_ready (rs:=[2]) (by kernel_rfl) (by simp) (AllReadyH.cons (List.getElem?_toArray.trans rfl) (fun K hK=>?_) AllReadyH.nil)
  go_simp
  refine hK.out _ _ ?hS122 (fun hHeld=>?_)
  case hS122=>((try dsimp only);(go_split_ands;refine ⟨?_,?_,?_,?_,?_,?_,?_,?_⟩ <;> first | (simp [go_sem];done) | exact zaa hb' (by assumption)))
  clear hK K
  (first | simp only [pA,pZ,pS] | simp only [pN] | skip)
  refine wpAnyH_ready (rs:=[3]) (by kernel_rfl) (by simp) (AllReadyH.cons (List.getElem?_toArray.trans rfl) (fun K hK=>?_) AllReadyH.nil)
  go_simp
  refine hK.out _ _ ?hS123 (fun hHeld=>?_)
  case hS123=>((try dsimp only);(go_split_ands;refine ⟨?_,?_,?_,?_,?_,?_,?_,?_⟩ <;> first | (simp [go_sem];done) | exact zaa hb' (by assumption)))
  clear hK K
  (first | simp only [pA,pZ,pS] | simp only [pN] | skip)
  refine wpAnyH_ready (rs:=[5]) (by kernel_rfl) (by simp) (AllReadyH.cons (List.getElem?_toArray.trans rfl) (fun K hK=>?_) AllReadyH.nil)
  go_simp
  (go_at_call 145;refine (hIs.out _ _ ?_).mono ?_;(first | exact za6 _ _ _ (by simp) | exact za7 _ _ _ _ (by simp));rintro e' w' ⟨rfl,rfl⟩)
  (try go_wp2_with fail)
  refine hK.out _ _ ?hS124 (fun hHeld=>?_)
  case hS124=>((try dsimp only);(go_split_ands;refine ⟨?_,?_,?_,?_,?_,?_,?_,?_⟩ <;> first | (simp [go_sem];done) | exact zaa hb' (by assumption)))
  clear hK K
  (first | simp only [pA,pZ,pS] | simp only [pN] | skip)
  refine tk 6 hHeld ?_
  (try simp only [pA,pZ,pS])
  refine tk 7 hHeld ?_
  (try simp only [pA,pZ,pS])
  refine tk 8 hHeld ?_
  (try simp only [pA,pZ,pS])
  refine tk 9 hHeld ?_
  (try simp only [pA,pZ,pS])
  refine tk 10 hHeld ?_
  (try simp only [pA,pZ,pS])
  refine tk 11 hHeld ?_
  (try simp only [pA,pZ,pS])
  refine tk 12 hHeld ?_
  (try simp only [pA,pZ,pS])
  refine tk 13 hHeld ?_
  (try simp only [pA,pZ,pS])
  refine tk 14 hHeld ?_
  (try simp only [pA,pZ,pS])
  refine wpAnyH_ready (rs:=[15]) (by kernel_rfl) (by simp) (AllReadyH.cons (List.getElem?_toArray.trans rfl) (fun K hK=>?_) AllReadyH.nil)
  go_simp
  (go_at_call 109;refine (hZ.out _).mono ?_;rintro e' w' ⟨rfl,hb'⟩)
  (try go_wp2_with fail)
  refine hK.out _ _ ?hS125 (fun hHeld=>?_)
  case hS125=>((try dsimp only);(go_split_ands;refine ⟨?_,?_,?_,?_,?_,?_,?_,?_⟩ <;> first | (simp [go_sem];done) | exact zaa hb' (by assumption)))
  clear hK K
  (first | simp only [pA,pZ,pS] | simp only [pN] | skip)
  refine tk 16 hHeld ?_
  (try simp only [pA,pZ,pS])
  refine tk 17 hHeld ?_
  (try simp only [pA,pZ,pS])
  refine tk 18 hHeld ?_
  (try simp only [pA,pZ,pS])
  refine tk 19 hHeld ?_
  (try simp only [pA,pZ,pS])
  refine tk 20 hHeld ?_
  (try simp only [pA,pZ,pS])
  refine tk 21 hHeld ?_
  (try simp only [pA,pZ,pS])
  refine tk 22 hHeld ?_
  (try simp only [pA,pZ,pS])
  refine tk 23 hHeld ?_
  (try simp only [pA,pZ,pS])
  refine tk 24 hHeld ?_
  (try simp only [pA,pZ,pS])
  refine tk 25 hHeld ?_
  (try simp only [pA,pZ,pS])
  refine tk 26 hHeld ?_
  (try simp only [pA,pZ,pS])
  refine tk 27 hHeld ?_
  (try simp only [pA,pZ,pS])
  refine tk 28 hHeld ?_
  (try simp only [pA,pZ,pS])
  refine tk 29 hHeld ?_
  (try simp only [pA,pZ,pS])
  refine tk 30 hHeld ?_
  (try simp only [pA,pZ,pS])
  refine tk 31 hHeld ?_
  (try simp only [pA,pZ,pS])
  refine tk 32 hHeld ?_
  (try simp only [pA,pZ,pS])
  refine tk 33 hHeld ?_
  (try simp only [pA,pZ,pS])
  refine tk 34 hHeld ?_
  (try simp only [pA,pZ,pS])
  refine wpAnyH_done (by kernel_rfl) ?_ _
  refine NoPanic.normal ?_
  obtain ⟨y0,y1,y2,y3,y4,y5,y6,y7⟩:=hHeld
  have hBz:Below w.heap.size w w':=(B3 _ _ _).trans (hb'.mono (by simp;omega))
  have hE:=zjz (hv0.below hBz)
  clear hb' hv0
  go_wp2
  go_quiet (first | (go_at_call 146;refine Calls.quiet_of_same (hF.out _ (hE.out.below ?_));exact zaO (Below.refl _ _)))
  go_wp2
  go_ret
  exact ⟨rfl,zaO hBz⟩
end Go.Proofs.YtmmdlgjmplddiaaGreat
