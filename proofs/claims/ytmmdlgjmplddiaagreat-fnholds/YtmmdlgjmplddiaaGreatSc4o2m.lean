/-
  OUR OWN TEXT. The model's side of the checker: an operation, with a name, or a value (written by gensc4.py).
-/
import Derived.Test.YtmmdlgjmplddiaaGreatHba
import Derived.Test.YtmmdlgjmplddiaaGreatHah
namespace Go.Proofs.YtmmdlgjmplddiaaGreat
open Go.RowKit
attribute [local go_sem ↓] Go.wp_at_zero Go.wp_at_succ
theorem znw {p:Prop} (h:p):Hid p:=h
set_option maxHeartbeats 3200000 in
theorem zh0 (a:Option Addr) (c:Nat) (es:List Ex) (S:List Sp) (e:Ex) (w:World) {q:Option Nat} (hv:za8 q w a es) (he:es[S.length]?=some e) (ho0:0≤e.op) (ho1:e.op<256) (k2:e.kind=2) (har:isAr e.op=true) (hva:e.var.toList.isEmpty=false) :
  Calls Tryz.prog 143 #[.slice a es.length c,.int .i64 (S.length:Int)] w fun e' w'=>e'=.returned (.bool false)∧Below w.heap.size w w':=by
 have hkl:S.length<es.length:=(List.getElem?_eq_some_iff.1 he).1
 have B1:∀ o,Below w.heap.size w (w.alloc o):=fun o=>(Below.refl _ _).alloc (Nat.le_refl _) _
 have B3:∀ o o1 o2,Below w.heap.size w (((w.alloc o).drew.alloc o1).alloc o2):=fun o o1 o2=>((B1 o).drew.alloc (by simp) _).alloc (by simp;omega) _
 have hv0:=hv
 obtain ⟨b,o,rfl,hq,c0,c1,c2,c3,c4,c5,c6,c7⟩:=hv.get he
 have hcv:=zcl e.op
 have hIs:=znw (zdc e.op ho0 ho1)
 rw [har] at hIs
 rw [k2] at c0
 clear hq hv
 have h1:(e.op==0)=false:=by
  cases h:(e.op==0)
  ·rfl
  ·have h0:e.op=0:=by simpa using h
   rw [h0] at har
   exact absurd har (by decide)
 go_enter Tryz.func143,Tryz.ntmps143
 go_wp2
 clear c0 c1 c2 c3 c4 c5 c6 c7 he hkl hv0
 (try clear h3);(try clear h2);clear h1
 refine wp_region_noPanic ?_
 refine wp_region_held_drew (S:=(fun w'=>w'.cell? ⟨w.heap.size,0,none⟩=some (.int .i64 2)∧w'.cell? ⟨w.heap.size,1,none⟩=some (.int .u8 e.op)∧w'.cell? ⟨w.heap.size,2,none⟩=some (.string e.var)∧w'.cell? ⟨w.heap.size,3,none⟩=some (.int .i64 e.val.kind)∧w'.cell? ⟨w.heap.size,4,none⟩=some (.int .i64 e.val.num)∧w'.cell? ⟨w.heap.size,5,none⟩=some (.string e.val.sym)∧w'.cell? ⟨w.heap.size,6,none⟩=some (.int .i64 e.a)∧w'.cell? ⟨w.heap.size,7,none⟩=some (.int .i64 e.b))) (by kernel_rfl) ?_ (fun hHeld=>?_)
 ·(try dsimp only)
  (go_split_ands;refine ⟨?_,?_,?_,?_,?_,?_,?_,?_⟩ <;> first | (simp [go_sem];done) | exact zaa hb' (by assumption))
 refine tk 0 hHeld ?_
 (try simp only [pA,pZ,pS])
 refine tk 1 hHeld ?_
 (try simp only [pA,pZ,pS])
 refine wpAnyH_ready (rs:=[2,4]) (by kernel_rfl) (by simp) (AllReadyH.cons (List.getElem?_toArray.trans rfl) (fun K hK=>?_) (AllReadyH.cons (List.getElem?_toArray.trans rfl) (fun K hK=>?_) AllReadyH.nil))
 ·go_simp
  refine hK.out _ _ ?hS45 (fun hHeld=>?_)
  case hS45=>((try dsimp only);(go_split_ands;refine ⟨?_,?_,?_,?_,?_,?_,?_,?_⟩ <;> first | (simp [go_sem];done) | exact zaa hb' (by assumption)))
  clear hK K
  (first | simp only [pA,pZ,pS] | simp only [pN] | skip)
  refine wpAnyH_ready (rs:=[3,4]) (by kernel_rfl) (by simp) (AllReadyH.cons (List.getElem?_toArray.trans rfl) (fun K hK=>?_) (AllReadyH.cons (List.getElem?_toArray.trans rfl) (fun K hK=>?_) AllReadyH.nil))
  ·go_simp
   refine hK.out _ _ ?hS46 (fun hHeld=>?_)
   case hS46=>((try dsimp only);(go_split_ands;refine ⟨?_,?_,?_,?_,?_,?_,?_,?_⟩ <;> first | (simp [go_sem];done) | exact zaa hb' (by assumption)))
   clear hK K
   (first | simp only [pA,pZ,pS] | simp only [pN] | skip)
   refine wpAnyH_ready (rs:=[4]) (by kernel_rfl) (by simp) (AllReadyH.cons (List.getElem?_toArray.trans rfl) (fun K hK=>?_) AllReadyH.nil)
   go_simp
   (go_at_call 166;refine (zal _).mono ?_;rintro e' w' ⟨rfl,rfl⟩)
   (try go_wp2_with fail)
   refine hK.out _ _ ?hS47 (fun hHeld=>?_)
   case hS47=>((try dsimp only);(go_split_ands;refine ⟨?_,?_,?_,?_,?_,?_,?_,?_⟩ <;> first | (simp [go_sem];done) | exact zaa hb' (by assumption)))
   clear hK K
   (first | simp only [pA,pZ,pS] | simp only [pN] | skip)
   refine wpAnyH_ready (rs:=[5]) (by kernel_rfl) (by simp) (AllReadyH.cons (List.getElem?_toArray.trans rfl) (fun K hK=>?_) AllReadyH.nil)
   go_simp
   (go_at_call 145;refine (hIs.out _ _ ?_).mono ?_;(first | exact za6 _ _ _ (by simp) | exact za7 _ _ _ _ (by simp));rintro e' w' ⟨rfl,rfl⟩)
   (try go_wp2_with fail)
   refine hK.out _ _ ?hS48 (fun hHeld=>?_)
   case hS48=>((try dsimp only);(go_split_ands;refine ⟨?_,?_,?_,?_,?_,?_,?_,?_⟩ <;> first | (simp [go_sem];done) | exact zaa hb' (by assumption)))
   clear hK K
   (first | simp only [pA,pZ,pS] | simp only [pN] | skip)
   refine tk 6 hHeld ?_
   (try simp only [pA,pZ,pS])
   refine tk 7 hHeld ?_
   (try simp only [pA,pZ,pS])
   refine tk 8 hHeld ?_
   (try simp only [pA,pZ,pS])
   refine tk 9 hHeld ?_
   (try simp only [pA,pZ,pS])
   refine tk 10 hHeld ?_
   (try simp only [pA,pZ,pS])
   refine tk 11 hHeld ?_
   (try simp only [pA,pZ,pS])
   refine tk 12 hHeld ?_
   refine tn 13 hHeld ?_
   refine tn 14 hHeld ?_
   refine tn 15 hHeld ?_
   (try simp only [pA,pZ,pS])
   refine tn 16 hHeld ?_
   (try simp only [pA,pZ,pS])
   refine tk 17 hHeld ?_
   (try simp only [pA,pZ,pS])
   refine tk 18 hHeld ?_
   refine tn 19 hHeld ?_
   refine tn 20 hHeld ?_
   refine tn 21 hHeld ?_
   (try simp only [pA,pZ,pS])
   refine tn 22 hHeld ?_
   refine tn 23 hHeld ?_
   (try simp only [pA,pZ,pS])
   refine tk 24 hHeld ?_
   (try simp only [pA,pZ,pS])
   refine tk 25 hHeld ?_
   refine tn 26 hHeld ?_
   refine tn 27 hHeld ?_
   refine tn 28 hHeld ?_
   (try simp only [pA,pZ,pS])
   refine tk 29 hHeld ?_
   (try simp only [pA,pZ,pS])
   refine tk 30 hHeld ?_
   refine tn 31 hHeld ?_
   refine tn 32 hHeld ?_
   refine tn 33 hHeld ?_
   (try simp only [pA,pZ,pS])
   refine tk 34 hHeld ?_
   (try simp only [pA,pZ,pS])
   refine wpAnyH_done (by kernel_rfl) ?_ _
   refine NoPanic.normal ?_
   go_wp2
   go_ret
   exact ⟨rfl,B3 _ _ _⟩
  ·go_simp
   (go_at_call 166;refine (zal _).mono ?_;rintro e' w' ⟨rfl,rfl⟩)
   (try go_wp2_with fail)
   refine hK.out _ _ ?hS49 (fun hHeld=>?_)
   case hS49=>((try dsimp only);(go_split_ands;refine ⟨?_,?_,?_,?_,?_,?_,?_,?_⟩ <;> first | (simp [go_sem];done) | exact zaa hb' (by assumption)))
   clear hK K
   (first | simp only [pA,pZ,pS] | simp only [pN] | skip)
   refine wpAnyH_ready (rs:=[3]) (by kernel_rfl) (by simp) (AllReadyH.cons (List.getElem?_toArray.trans rfl) (fun K hK=>?_) AllReadyH.nil)
   go_simp
   refine hK.out _ _ ?hS50 (fun hHeld=>?_)
   case hS50=>((try dsimp only);(go_split_ands;refine ⟨?_,?_,?_,?_,?_,?_,?_,?_⟩ <;> first | (simp [go_sem];done) | exact zaa hb' (by assumption)))
   clear hK K
   (first | simp only [pA,pZ,pS] | simp only [pN] | skip)
   refine wpAnyH_ready (rs:=[5]) (by kernel_rfl) (by simp) (AllReadyH.cons (List.getElem?_toArray.trans rfl) (fun K hK=>?_) AllReadyH.nil)
   go_simp
   (go_at_call 145;refine (hIs.out _ _ ?_).mono ?_;(first | exact za6 _ _ _ (by simp) | exact za7 _ _ _ _ (by simp));rintro e' w' ⟨rfl,rfl⟩)
   (try go_wp2_with fail)
   refine hK.out _ _ ?hS51 (fun hHeld=>?_)
   case hS51=>((try dsimp only);(go_split_ands;refine ⟨?_,?_,?_,?_,?_,?_,?_,?_⟩ <;> first | (simp [go_sem];done) | exact zaa hb' (by assumption)))
   clear hK K
   (first | simp only [pA,pZ,pS] | simp only [pN] | skip)
   refine tk 6 hHeld ?_
   (try simp only [pA,pZ,pS])
   refine tk 7 hHeld ?_
   (try simp only [pA,pZ,pS])
   refine tk 8 hHeld ?_
   (try simp only [pA,pZ,pS])
   refine tk 9 hHeld ?_
   (try simp only [pA,pZ,pS])
   refine tk 10 hHeld ?_
   (try simp only [pA,pZ,pS])
   refine tk 11 hHeld ?_
   (try simp only [pA,pZ,pS])
   refine tk 12 hHeld ?_
   refine tn 13 hHeld ?_
   refine tn 14 hHeld ?_
   refine tn 15 hHeld ?_
   (try simp only [pA,pZ,pS])
   refine tn 16 hHeld ?_
   (try simp only [pA,pZ,pS])
   refine tk 17 hHeld ?_
   (try simp only [pA,pZ,pS])
   refine tk 18 hHeld ?_
   refine tn 19 hHeld ?_
   refine tn 20 hHeld ?_
   refine tn 21 hHeld ?_
   (try simp only [pA,pZ,pS])
   refine tn 22 hHeld ?_
   refine tn 23 hHeld ?_
   (try simp only [pA,pZ,pS])
   refine tk 24 hHeld ?_
   (try simp only [pA,pZ,pS])
   refine tk 25 hHeld ?_
   refine tn 26 hHeld ?_
   refine tn 27 hHeld ?_
   refine tn 28 hHeld ?_
   (try simp only [pA,pZ,pS])
   refine tk 29 hHeld ?_
   (try simp only [pA,pZ,pS])
   refine tk 30 hHeld ?_
   refine tn 31 hHeld ?_
   refine tn 32 hHeld ?_
   refine tn 33 hHeld ?_
   (try simp only [pA,pZ,pS])
   refine tk 34 hHeld ?_
   (try simp only [pA,pZ,pS])
   refine wpAnyH_done (by kernel_rfl) ?_ _
   refine NoPanic.normal ?_
   go_wp2
   go_ret
   exact ⟨rfl,B3 _ _ _⟩
 ·go_simp
  (go_at_call 166;refine (zal _).mono ?_;rintro e' w' ⟨rfl,rfl⟩)
  (try go_wp2_with fail)
  refine hK.out _ _ ?hS52 (fun hHeld=>?_)
  case hS52=>((try dsimp only);(go_split_ands;refine ⟨?_,?_,?_,?_,?_,?_,?_,?_⟩ <;> first | (simp [go_sem];done) | exact zaa hb' (by assumption)))
  clear hK K
  (first | simp only [pA,pZ,pS] | simp only [pN] | skip)
  refine wpAnyH_ready (rs:=[2]) (by kernel_rfl) (by simp) (AllReadyH.cons (List.getElem?_toArray.trans rfl) (fun K hK=>?_) AllReadyH.nil)
  go_simp
  refine hK.out _ _ ?hS53 (fun hHeld=>?_)
  case hS53=>((try dsimp only);(go_split_ands;refine ⟨?_,?_,?_,?_,?_,?_,?_,?_⟩ <;> first | (simp [go_sem];done) | exact zaa hb' (by assumption)))
  clear hK K
  (first | simp only [pA,pZ,pS] | simp only [pN] | skip)
  refine wpAnyH_ready (rs:=[3]) (by kernel_rfl) (by simp) (AllReadyH.cons (List.getElem?_toArray.trans rfl) (fun K hK=>?_) AllReadyH.nil)
  go_simp
  refine hK.out _ _ ?hS54 (fun hHeld=>?_)
  case hS54=>((try dsimp only);(go_split_ands;refine ⟨?_,?_,?_,?_,?_,?_,?_,?_⟩ <;> first | (simp [go_sem];done) | exact zaa hb' (by assumption)))
  clear hK K
  (first | simp only [pA,pZ,pS] | simp only [pN] | skip)
  refine wpAnyH_ready (rs:=[5]) (by kernel_rfl) (by simp) (AllReadyH.cons (List.getElem?_toArray.trans rfl) (fun K hK=>?_) AllReadyH.nil)
  go_simp
  (go_at_call 145;refine (hIs.out _ _ ?_).mono ?_;(first | exact za6 _ _ _ (by simp) | exact za7 _ _ _ _ (by simp));rintro e' w' ⟨rfl,rfl⟩)
  (try go_wp2_with fail)
  refine hK.out _ _ ?hS55 (fun hHeld=>?_)
  case hS55=>((try dsimp only);(go_split_ands;refine ⟨?_,?_,?_,?_,?_,?_,?_,?_⟩ <;> first | (simp [go_sem];done) | exact zaa hb' (by assumption)))
  clear hK K
  (first | simp only [pA,pZ,pS] | simp only [pN] | skip)
  refine tk 6 hHeld ?_
  (try simp only [pA,pZ,pS])
  refine tk 7 hHeld ?_
  (try simp only [pA,pZ,pS])
  refine tk 8 hHeld ?_
  (try simp only [pA,pZ,pS])
  refine tk 9 hHeld ?_
  (try simp only [pA,pZ,pS])
  refine tk 10 hHeld ?_
  (try simp only [pA,pZ,pS])
  refine tk 11 hHeld ?_
  (try simp only [pA,pZ,pS])
  refine tk 12 hHeld ?_
  refine tn 13 hHeld ?_
  refine tn 14 hHeld ?_
  refine tn 15 hHeld ?_
  (try simp only [pA,pZ,pS])
  refine tn 16 hHeld ?_
  (try simp only [pA,pZ,pS])
  refine tk 17 hHeld ?_
  (try simp only [pA,pZ,pS])
  refine tk 18 hHeld ?_
  refine tn 19 hHeld ?_
  refine tn 20 hHeld ?_
  refine tn 21 hHeld ?_
  (try simp only [pA,pZ,pS])
  refine tn 22 hHeld ?_
  refine tn 23 hHeld ?_
  (try simp only [pA,pZ,pS])
  refine tk 24 hHeld ?_
  (try simp only [pA,pZ,pS])
  refine tk 25 hHeld ?_
  refine tn 26 hHeld ?_
  refine tn 27 hHeld ?_
  refine tn 28 hHeld ?_
  (try simp only [pA,pZ,pS])
  refine tk 29 hHeld ?_
  (try simp only [pA,pZ,pS])
  refine tk 30 hHeld ?_
  refine tn 31 hHeld ?_
  refine tn 32 hHeld ?_
  refine tn 33 hHeld ?_
  (try simp only [pA,pZ,pS])
  refine tk 34 hHeld ?_
  (try simp only [pA,pZ,pS])
  refine wpAnyH_done (by kernel_rfl) ?_ _
  refine NoPanic.normal ?_
  go_wp2
  go_ret
  exact ⟨rfl,B3 _ _ _⟩
set_option maxHeartbeats 3200000 in
theorem zia (a:Option Addr) (c:Nat) (es:List Ex) (S:List Sp) (e:Ex) (w:World) {q:Option Nat} (hv:za8 q w a es) (he:es[S.length]?=some e) (ho0:0≤e.op) (ho1:e.op<256) (k2:e.kind=2) (har:isAr e.op=true) (hva:e.var.toList.isEmpty=true) (hz:zaZ e.val=false) :
  Calls Tryz.prog 143 #[.slice a es.length c,.int .i64 (S.length:Int)] w fun e' w'=>e'=.returned (.bool false)∧Below w.heap.size w w':=by
 have hkl:S.length<es.length:=(List.getElem?_eq_some_iff.1 he).1
 have B1:∀ o,Below w.heap.size w (w.alloc o):=fun o=>(Below.refl _ _).alloc (Nat.le_refl _) _
 have B3:∀ o o1 o2,Below w.heap.size w (((w.alloc o).drew.alloc o1).alloc o2):=fun o o1 o2=>((B1 o).drew.alloc (by simp) _).alloc (by simp;omega) _
 have hv0:=hv
 obtain ⟨b,o,rfl,hq,c0,c1,c2,c3,c4,c5,c6,c7⟩:=hv.get he
 have hcv:=zcl e.op
 have hIs:=znw (zdc e.op ho0 ho1)
 rw [har] at hIs
 have hZ:=znw (fun w=>zbz e.val w)
 rw [hz] at hZ
 rw [k2] at c0
 clear hq hv
 have h1:(e.op==0)=false:=by
  cases h:(e.op==0)
  ·rfl
  ·have h0:e.op=0:=by simpa using h
   rw [h0] at har
   exact absurd har (by decide)
 go_enter Tryz.func143,Tryz.ntmps143
 go_wp2
 clear c0 c1 c2 c3 c4 c5 c6 c7 he hkl hv0
 (try clear h3);(try clear h2);clear h1
 refine wp_region_noPanic ?_
 refine wp_region_held_drew (S:=(fun w'=>w'.cell? ⟨w.heap.size,0,none⟩=some (.int .i64 2)∧w'.cell? ⟨w.heap.size,1,none⟩=some (.int .u8 e.op)∧w'.cell? ⟨w.heap.size,2,none⟩=some (.string e.var)∧w'.cell? ⟨w.heap.size,3,none⟩=some (.int .i64 e.val.kind)∧w'.cell? ⟨w.heap.size,4,none⟩=some (.int .i64 e.val.num)∧w'.cell? ⟨w.heap.size,5,none⟩=some (.string e.val.sym)∧w'.cell? ⟨w.heap.size,6,none⟩=some (.int .i64 e.a)∧w'.cell? ⟨w.heap.size,7,none⟩=some (.int .i64 e.b))) (by kernel_rfl) ?_ (fun hHeld=>?_)
 ·(try dsimp only)
  (go_split_ands;refine ⟨?_,?_,?_,?_,?_,?_,?_,?_⟩ <;> first | (simp [go_sem];done) | exact zaa hb' (by assumption))
 refine tk 0 hHeld ?_
 (try simp only [pA,pZ,pS])
 refine tk 1 hHeld ?_
 (try simp only [pA,pZ,pS])
 refine wpAnyH_ready (rs:=[2,4]) (by kernel_rfl) (by simp) (AllReadyH.cons (List.getElem?_toArray.trans rfl) (fun K hK=>?_) (AllReadyH.cons (List.getElem?_toArray.trans rfl) (fun K hK=>?_) AllReadyH.nil))
 ·go_simp
  refine hK.out _ _ ?hS56 (fun hHeld=>?_)
  case hS56=>((try dsimp only);(go_split_ands;refine ⟨?_,?_,?_,?_,?_,?_,?_,?_⟩ <;> first | (simp [go_sem];done) | exact zaa hb' (by assumption)))
  clear hK K
  (first | simp only [pA,pZ,pS] | simp only [pN] | skip)
  refine wpAnyH_ready (rs:=[3,4]) (by kernel_rfl) (by simp) (AllReadyH.cons (List.getElem?_toArray.trans rfl) (fun K hK=>?_) (AllReadyH.cons (List.getElem?_toArray.trans rfl) (fun K hK=>?_) AllReadyH.nil))
  ·go_simp
   refine hK.out _ _ ?hS57 (fun hHeld=>?_)
   case hS57=>((try dsimp only);(go_split_ands;refine ⟨?_,?_,?_,?_,?_,?_,?_,?_⟩ <;> first | (simp [go_sem];done) | exact zaa hb' (by assumption)))
   clear hK K
   (first | simp only [pA,pZ,pS] | simp only [pN] | skip)
   refine wpAnyH_ready (rs:=[4]) (by kernel_rfl) (by simp) (AllReadyH.cons (List.getElem?_toArray.trans rfl) (fun K hK=>?_) AllReadyH.nil)
   go_simp
   (go_at_call 166;refine (zal _).mono ?_;rintro e' w' ⟨rfl,rfl⟩)
   (try go_wp2_with fail)
   refine hK.out _ _ ?hS58 (fun hHeld=>?_)
   case hS58=>((try dsimp only);(go_split_ands;refine ⟨?_,?_,?_,?_,?_,?_,?_,?_⟩ <;> first | (simp [go_sem];done) | exact zaa hb' (by assumption)))
   clear hK K
   (first | simp only [pA,pZ,pS] | simp only [pN] | skip)
   refine wpAnyH_ready (rs:=[5]) (by kernel_rfl) (by simp) (AllReadyH.cons (List.getElem?_toArray.trans rfl) (fun K hK=>?_) AllReadyH.nil)
   go_simp
   (go_at_call 145;refine (hIs.out _ _ ?_).mono ?_;(first | exact za6 _ _ _ (by simp) | exact za7 _ _ _ _ (by simp));rintro e' w' ⟨rfl,rfl⟩)
   (try go_wp2_with fail)
   refine hK.out _ _ ?hS59 (fun hHeld=>?_)
   case hS59=>((try dsimp only);(go_split_ands;refine ⟨?_,?_,?_,?_,?_,?_,?_,?_⟩ <;> first | (simp [go_sem];done) | exact zaa hb' (by assumption)))
   clear hK K
   (first | simp only [pA,pZ,pS] | simp only [pN] | skip)
   refine tk 6 hHeld ?_
   (try simp only [pA,pZ,pS])
   refine tk 7 hHeld ?_
   (try simp only [pA,pZ,pS])
   refine tk 8 hHeld ?_
   (try simp only [pA,pZ,pS])
   refine tk 9 hHeld ?_
   (try simp only [pA,pZ,pS])
   refine tk 10 hHeld ?_
   (try simp only [pA,pZ,pS])
   refine tk 11 hHeld ?_
   (try simp only [pA,pZ,pS])
   refine tk 12 hHeld ?_
   (try simp only [pA,pZ,pS])
   refine tk 13 hHeld ?_
   (try simp only [pA,pZ,pS])
   refine tk 14 hHeld ?_
   (try simp only [pA,pZ,pS])
   refine wpAnyH_ready (rs:=[15]) (by kernel_rfl) (by simp) (AllReadyH.cons (List.getElem?_toArray.trans rfl) (fun K hK=>?_) AllReadyH.nil)
   go_simp
   (go_at_call 109;refine (hZ.out _).mono ?_;rintro e' w' ⟨rfl,hb'⟩)
   (try go_wp2_with fail)
   refine hK.out _ _ ?hS60 (fun hHeld=>?_)
   case hS60=>((try dsimp only);(go_split_ands;refine ⟨?_,?_,?_,?_,?_,?_,?_,?_⟩ <;> first | (simp [go_sem];done) | exact zaa hb' (by assumption)))
   clear hK K
   (first | simp only [pA,pZ,pS] | simp only [pN] | skip)
   refine tk 16 hHeld ?_
   (try simp only [pA,pZ,pS])
   refine tk 17 hHeld ?_
   (try simp only [pA,pZ,pS])
   refine tk 18 hHeld ?_
   refine tn 19 hHeld ?_
   refine tn 20 hHeld ?_
   refine tn 21 hHeld ?_
   (try simp only [pA,pZ,pS])
   refine tn 22 hHeld ?_
   refine tn 23 hHeld ?_
   (try simp only [pA,pZ,pS])
   refine tk 24 hHeld ?_
   (try simp only [pA,pZ,pS])
   refine tk 25 hHeld ?_
   refine tn 26 hHeld ?_
   refine tn 27 hHeld ?_
   refine tn 28 hHeld ?_
   (try simp only [pA,pZ,pS])
   refine tk 29 hHeld ?_
   (try simp only [pA,pZ,pS])
   refine tk 30 hHeld ?_
   refine tn 31 hHeld ?_
   refine tn 32 hHeld ?_
   refine tn 33 hHeld ?_
   (try simp only [pA,pZ,pS])
   refine tk 34 hHeld ?_
   (try simp only [pA,pZ,pS])
   refine wpAnyH_done (by kernel_rfl) ?_ _
   refine NoPanic.normal ?_
   go_wp2
   go_ret
   exact ⟨rfl,(B3 _ _ _).trans (hb'.mono (by simp;omega))⟩
  ·go_simp
   (go_at_call 166;refine (zal _).mono ?_;rintro e' w' ⟨rfl,rfl⟩)
   (try go_wp2_with fail)
   refine hK.out _ _ ?hS61 (fun hHeld=>?_)
   case hS61=>((try dsimp only);(go_split_ands;refine ⟨?_,?_,?_,?_,?_,?_,?_,?_⟩ <;> first | (simp [go_sem];done) | exact zaa hb' (by assumption)))
   clear hK K
   (first | simp only [pA,pZ,pS] | simp only [pN] | skip)
   refine wpAnyH_ready (rs:=[3]) (by kernel_rfl) (by simp) (AllReadyH.cons (List.getElem?_toArray.trans rfl) (fun K hK=>?_) AllReadyH.nil)
   go_simp
   refine hK.out _ _ ?hS62 (fun hHeld=>?_)
   case hS62=>((try dsimp only);(go_split_ands;refine ⟨?_,?_,?_,?_,?_,?_,?_,?_⟩ <;> first | (simp [go_sem];done) | exact zaa hb' (by assumption)))
   clear hK K
   (first | simp only [pA,pZ,pS] | simp only [pN] | skip)
   refine wpAnyH_ready (rs:=[5]) (by kernel_rfl) (by simp) (AllReadyH.cons (List.getElem?_toArray.trans rfl) (fun K hK=>?_) AllReadyH.nil)
   go_simp
   (go_at_call 145;refine (hIs.out _ _ ?_).mono ?_;(first | exact za6 _ _ _ (by simp) | exact za7 _ _ _ _ (by simp));rintro e' w' ⟨rfl,rfl⟩)
   (try go_wp2_with fail)
   refine hK.out _ _ ?hS63 (fun hHeld=>?_)
   case hS63=>((try dsimp only);(go_split_ands;refine ⟨?_,?_,?_,?_,?_,?_,?_,?_⟩ <;> first | (simp [go_sem];done) | exact zaa hb' (by assumption)))
   clear hK K
   (first | simp only [pA,pZ,pS] | simp only [pN] | skip)
   refine tk 6 hHeld ?_
   (try simp only [pA,pZ,pS])
   refine tk 7 hHeld ?_
   (try simp only [pA,pZ,pS])
   refine tk 8 hHeld ?_
   (try simp only [pA,pZ,pS])
   refine tk 9 hHeld ?_
   (try simp only [pA,pZ,pS])
   refine tk 10 hHeld ?_
   (try simp only [pA,pZ,pS])
   refine tk 11 hHeld ?_
   (try simp only [pA,pZ,pS])
   refine tk 12 hHeld ?_
   (try simp only [pA,pZ,pS])
   refine tk 13 hHeld ?_
   (try simp only [pA,pZ,pS])
   refine tk 14 hHeld ?_
   (try simp only [pA,pZ,pS])
   refine wpAnyH_ready (rs:=[15]) (by kernel_rfl) (by simp) (AllReadyH.cons (List.getElem?_toArray.trans rfl) (fun K hK=>?_) AllReadyH.nil)
   go_simp
   (go_at_call 109;refine (hZ.out _).mono ?_;rintro e' w' ⟨rfl,hb'⟩)
   (try go_wp2_with fail)
   refine hK.out _ _ ?hS64 (fun hHeld=>?_)
   case hS64=>((try dsimp only);(go_split_ands;refine ⟨?_,?_,?_,?_,?_,?_,?_,?_⟩ <;> first | (simp [go_sem];done) | exact zaa hb' (by assumption)))
   clear hK K
   (first | simp only [pA,pZ,pS] | simp only [pN] | skip)
   refine tk 16 hHeld ?_
   (try simp only [pA,pZ,pS])
   refine tk 17 hHeld ?_
   (try simp only [pA,pZ,pS])
   refine tk 18 hHeld ?_
   refine tn 19 hHeld ?_
   refine tn 20 hHeld ?_
   refine tn 21 hHeld ?_
   (try simp only [pA,pZ,pS])
   refine tn 22 hHeld ?_
   refine tn 23 hHeld ?_
   (try simp only [pA,pZ,pS])
   refine tk 24 hHeld ?_
   (try simp only [pA,pZ,pS])
   refine tk 25 hHeld ?_
   refine tn 26 hHeld ?_
   refine tn 27 hHeld ?_
   refine tn 28 hHeld ?_
   (try simp only [pA,pZ,pS])
   refine tk 29 hHeld ?_
   (try simp only [pA,pZ,pS])
   refine tk 30 hHeld ?_
   refine tn 31 hHeld ?_
   refine tn 32 hHeld ?_
   refine tn 33 hHeld ?_
   (try simp only [pA,pZ,pS])
   refine tk 34 hHeld ?_
   (try simp only [pA,pZ,pS])
   refine wpAnyH_done (by kernel_rfl) ?_ _
   refine NoPanic.normal ?_
   go_wp2
   go_ret
   exact ⟨rfl,(B3 _ _ _).trans (hb'.mono (by simp;omega))⟩
 ·go_simp
  (go_at_call 166;refine (zal _).mono ?_;rintro e' w' ⟨rfl,rfl⟩)
  (try go_wp2_with fail)
  refine hK.out _ _ ?hS65 (fun hHeld=>?_)
  case hS65=>((try dsimp only);(go_split_ands;refine ⟨?_,?_,?_,?_,?_,?_,?_,?_⟩ <;> first | (simp [go_sem];done) | exact zaa hb' (by assumption)))
  clear hK K
  (first | simp only [pA,pZ,pS] | simp only [pN] | skip)
  refine wpAnyH_ready (rs:=[2]) (by kernel_rfl) (by simp) (AllReadyH.cons (List.getElem?_toArray.trans rfl) (fun K hK=>?_) AllReadyH.nil)
  go_simp
  refine hK.out _ _ ?hS66 (fun hHeld=>?_)
  case hS66=>((try dsimp only);(go_split_ands;refine ⟨?_,?_,?_,?_,?_,?_,?_,?_⟩ <;> first | (simp [go_sem];done) | exact zaa hb' (by assumption)))
  clear hK K
  (first | simp only [pA,pZ,pS] | simp only [pN] | skip)
  refine wpAnyH_ready (rs:=[3]) (by kernel_rfl) (by simp) (AllReadyH.cons (List.getElem?_toArray.trans rfl) (fun K hK=>?_) AllReadyH.nil)
  go_simp
  refine hK.out _ _ ?hS67 (fun hHeld=>?_)
  case hS67=>((try dsimp only);(go_split_ands;refine ⟨?_,?_,?_,?_,?_,?_,?_,?_⟩ <;> first | (simp [go_sem];done) | exact zaa hb' (by assumption)))
  clear hK K
  (first | simp only [pA,pZ,pS] | simp only [pN] | skip)
  refine wpAnyH_ready (rs:=[5]) (by kernel_rfl) (by simp) (AllReadyH.cons (List.getElem?_toArray.trans rfl) (fun K hK=>?_) AllReadyH.nil)
  go_simp
  (go_at_call 145;refine (hIs.out _ _ ?_).mono ?_;(first | exact za6 _ _ _ (by simp) | exact za7 _ _ _ _ (by simp));rintro e' w' ⟨rfl,rfl⟩)
  (try go_wp2_with fail)
  refine hK.out _ _ ?hS68 (fun hHeld=>?_)
  case hS68=>((try dsimp only);(go_split_ands;refine ⟨?_,?_,?_,?_,?_,?_,?_,?_⟩ <;> first | (simp [go_sem];done) | exact zaa hb' (by assumption)))
  clear hK K
  (first | simp only [pA,pZ,pS] | simp only [pN] | skip)
  refine tk 6 hHeld ?_
  (try simp only [pA,pZ,pS])
  refine tk 7 hHeld ?_
  (try simp only [pA,pZ,pS])
  refine tk 8 hHeld ?_
  (try simp only [pA,pZ,pS])
  refine tk 9 hHeld ?_
  (try simp only [pA,pZ,pS])
  refine tk 10 hHeld ?_
  (try simp only [pA,pZ,pS])
  refine tk 11 hHeld ?_
  (try simp only [pA,pZ,pS])
  refine tk 12 hHeld ?_
  (try simp only [pA,pZ,pS])
  refine tk 13 hHeld ?_
  (try simp only [pA,pZ,pS])
  refine tk 14 hHeld ?_
  (try simp only [pA,pZ,pS])
  refine wpAnyH_ready (rs:=[15]) (by kernel_rfl) (by simp) (AllReadyH.cons (List.getElem?_toArray.trans rfl) (fun K hK=>?_) AllReadyH.nil)
  go_simp
  (go_at_call 109;refine (hZ.out _).mono ?_;rintro e' w' ⟨rfl,hb'⟩)
  (try go_wp2_with fail)
  refine hK.out _ _ ?hS69 (fun hHeld=>?_)
  case hS69=>((try dsimp only);(go_split_ands;refine ⟨?_,?_,?_,?_,?_,?_,?_,?_⟩ <;> first | (simp [go_sem];done) | exact zaa hb' (by assumption)))
  clear hK K
  (first | simp only [pA,pZ,pS] | simp only [pN] | skip)
  refine tk 16 hHeld ?_
  (try simp only [pA,pZ,pS])
  refine tk 17 hHeld ?_
  (try simp only [pA,pZ,pS])
  refine tk 18 hHeld ?_
  refine tn 19 hHeld ?_
  refine tn 20 hHeld ?_
  refine tn 21 hHeld ?_
  (try simp only [pA,pZ,pS])
  refine tn 22 hHeld ?_
  refine tn 23 hHeld ?_
  (try simp only [pA,pZ,pS])
  refine tk 24 hHeld ?_
  (try simp only [pA,pZ,pS])
  refine tk 25 hHeld ?_
  refine tn 26 hHeld ?_
  refine tn 27 hHeld ?_
  refine tn 28 hHeld ?_
  (try simp only [pA,pZ,pS])
  refine tk 29 hHeld ?_
  (try simp only [pA,pZ,pS])
  refine tk 30 hHeld ?_
  refine tn 31 hHeld ?_
  refine tn 32 hHeld ?_
  refine tn 33 hHeld ?_
  (try simp only [pA,pZ,pS])
  refine tk 34 hHeld ?_
  (try simp only [pA,pZ,pS])
  refine wpAnyH_done (by kernel_rfl) ?_ _
  refine NoPanic.normal ?_
  go_wp2
  go_ret
  exact ⟨rfl,(B3 _ _ _).trans (hb'.mono (by simp;omega))⟩
end Go.Proofs.YtmmdlgjmplddiaaGreat
