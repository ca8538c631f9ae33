/-
  OUR OWN TEXT. The model's side of the checker: an operation, no operator (written by gensc4.py).
-/
import Derived.Test.YtmmdlgjmplddiaaGreatHba
import Derived.Test.YtmmdlgjmplddiaaGreatHah
namespace Go.Proofs.YtmmdlgjmplddiaaGreat
open Go.RowKit
attribute [local go_sem ↓] Go.wp_at_zero Go.wp_at_succ
theorem zn8 {p:Prop} (h:p):Hid p:=h
set_option maxHeartbeats 3200000 in
theorem zis (a:Option Addr) (c:Nat) (es:List Ex) (S:List Sp) (e:Ex) (w:World) {q:Option Nat} (hv:za8 q w a es) (he:es[S.length]?=some e) (ho0:0≤e.op) (ho1:e.op<256) (k2:e.kind=2) (har:isAr e.op=false) :
  Calls Tryz.prog 143 #[.slice a es.length c,.int .i64 (S.length:Int)] w fun e' w'=>e'=.returned (.bool false)∧Below w.heap.size w w':=by
 have hkl:S.length<es.length:=(List.getElem?_eq_some_iff.1 he).1
 have B1:∀ o,Below w.heap.size w (w.alloc o):=fun o=>(Below.refl _ _).alloc (Nat.le_refl _) _
 have B3:∀ o o1 o2,Below w.heap.size w (((w.alloc o).drew.alloc o1).alloc o2):=fun o o1 o2=>((B1 o).drew.alloc (by simp) _).alloc (by simp;omega) _
 have hv0:=hv
 obtain ⟨b,o,rfl,hq,c0,c1,c2,c3,c4,c5,c6,c7⟩:=hv.get he
 have hcv:=zcl e.op
 have hIs:=zn8 (zdc e.op ho0 ho1)
 rw [har] at hIs
 rw [k2] at c0
 clear hq hv
 have hcase:(e.op==0)=false∨((e.op==0)=true∧(e.a==0)=false)∨((e.op==0)=true∧(e.a==0)=true∧(e.b==0)=false)∨((e.op==0)=true∧(e.a==0)=true∧(e.b==0)=true):=by
  cases (e.op==0) <;> cases (e.a==0) <;> cases (e.b==0) <;> simp
 rcases hcase with h1 | ⟨h1,h2⟩ | ⟨h1,h2,h3⟩ | ⟨h1,h2,h3⟩
 ·go_enter Tryz.func143,Tryz.ntmps143
  go_wp2
  clear c0 c1 c2 c3 c4 c5 c6 c7 he hkl hv0
  (try clear h3);(try clear h2);clear h1
  refine wp_region_noPanic ?_
  refine wp_region_held_drew (S:=(fun w'=>w'.cell? ⟨w.heap.size,0,none⟩=some (.int .i64 2)∧w'.cell? ⟨w.heap.size,1,none⟩=some (.int .u8 e.op)∧w'.cell? ⟨w.heap.size,2,none⟩=some (.string e.var)∧w'.cell? ⟨w.heap.size,3,none⟩=some (.int .i64 e.val.kind)∧w'.cell? ⟨w.heap.size,4,none⟩=some (.int .i64 e.val.num)∧w'.cell? ⟨w.heap.size,5,none⟩=some (.string e.val.sym)∧w'.cell? ⟨w.heap.size,6,none⟩=some (.int .i64 e.a)∧w'.cell? ⟨w.heap.size,7,none⟩=some (.int .i64 e.b))) (by kernel_rfl) ?_ (fun hHeld=>?_)
  ·(try dsimp only)
   (go_split_ands;refine ⟨?_,?_,?_,?_,?_,?_,?_,?_⟩ <;> first | (simp [go_sem];done) | exact zaa hb' (by assumption))
  refine tk 0 hHeld ?_
  (try simp only [pA,pZ,pS])
  refine tk 1 hHeld ?_
  (try simp only [pA,pZ,pS])
  refine wpAnyH_ready (rs:=[2,4]) (by kernel_rfl) (by simp) (AllReadyH.cons (List.getElem?_toArray.trans rfl) (fun K hK=>?_) (AllReadyH.cons (List.getElem?_toArray.trans rfl) (fun K hK=>?_) AllReadyH.nil))
  ·go_simp
   refine hK.out _ _ ?hS1 (fun hHeld=>?_)
   case hS1=>((try dsimp only);(go_split_ands;refine ⟨?_,?_,?_,?_,?_,?_,?_,?_⟩ <;> first | (simp [go_sem];done) | exact zaa hb' (by assumption)))
   clear hK K
   (first | simp only [pA,pZ,pS] | simp only [pN] | skip)
   refine wpAnyH_ready (rs:=[3,4]) (by kernel_rfl) (by simp) (AllReadyH.cons (List.getElem?_toArray.trans rfl) (fun K hK=>?_) (AllReadyH.cons (List.getElem?_toArray.trans rfl) (fun K hK=>?_) AllReadyH.nil))
   ·go_simp
    refine hK.out _ _ ?hS2 (fun hHeld=>?_)
    case hS2=>((try dsimp only);(go_split_ands;refine ⟨?_,?_,?_,?_,?_,?_,?_,?_⟩ <;> first | (simp [go_sem];done) | exact zaa hb' (by assumption)))
    clear hK K
    (first | simp only [pA,pZ,pS] | simp only [pN] | skip)
    refine wpAnyH_ready (rs:=[4]) (by kernel_rfl) (by simp) (AllReadyH.cons (List.getElem?_toArray.trans rfl) (fun K hK=>?_) AllReadyH.nil)
    go_simp
    (go_at_call 166;refine (zal _).mono ?_;rintro e' w' ⟨rfl,rfl⟩)
    (try go_wp2_with fail)
    refine hK.out _ _ ?hS3 (fun hHeld=>?_)
    case hS3=>((try dsimp only);(go_split_ands;refine ⟨?_,?_,?_,?_,?_,?_,?_,?_⟩ <;> first | (simp [go_sem];done) | exact zaa hb' (by assumption)))
    clear hK K
    (first | simp only [pA,pZ,pS] | simp only [pN] | skip)
    refine wpAnyH_ready (rs:=[5]) (by kernel_rfl) (by simp) (AllReadyH.cons (List.getElem?_toArray.trans rfl) (fun K hK=>?_) AllReadyH.nil)
    go_simp
    (go_at_call 145;refine (hIs.out _ _ ?_).mono ?_;(first | exact za6 _ _ _ (by simp) | exact za7 _ _ _ _ (by simp));rintro e' w' ⟨rfl,rfl⟩)
    (try go_wp2_with fail)
    refine hK.out _ _ ?hS4 (fun hHeld=>?_)
    case hS4=>((try dsimp only);(go_split_ands;refine ⟨?_,?_,?_,?_,?_,?_,?_,?_⟩ <;> first | (simp [go_sem];done) | exact zaa hb' (by assumption)))
    clear hK K
    (first | simp only [pA,pZ,pS] | simp only [pN] | skip)
    refine tk 6 hHeld ?_
    (try simp only [pA,pZ,pS])
    refine tk 7 hHeld ?_
    refine tn 8 hHeld ?_
    refine tn 9 hHeld ?_
    refine tn 10 hHeld ?_
    (try simp only [pA,pZ,pS])
    refine tk 11 hHeld ?_
    (try simp only [pA,pZ,pS])
    refine tk 12 hHeld ?_
    refine tn 13 hHeld ?_
    refine tn 14 hHeld ?_
    refine tn 15 hHeld ?_
    (try simp only [pA,pZ,pS])
    refine tn 16 hHeld ?_
    (try simp only [pA,pZ,pS])
    refine tk 17 hHeld ?_
    (try simp only [pA,pZ,pS])
    refine tk 18 hHeld ?_
    refine tn 19 hHeld ?_
    refine tn 20 hHeld ?_
    refine tn 21 hHeld ?_
    (try simp only [pA,pZ,pS])
    refine tn 22 hHeld ?_
    refine tn 23 hHeld ?_
    (try simp only [pA,pZ,pS])
    refine tk 24 hHeld ?_
    (try simp only [pA,pZ,pS])
    refine tk 25 hHeld ?_
    refine tn 26 hHeld ?_
    refine tn 27 hHeld ?_
    refine tn 28 hHeld ?_
    (try simp only [pA,pZ,pS])
    refine tk 29 hHeld ?_
    (try simp only [pA,pZ,pS])
    refine tk 30 hHeld ?_
    refine tn 31 hHeld ?_
    refine tn 32 hHeld ?_
    refine tn 33 hHeld ?_
    (try simp only [pA,pZ,pS])
    refine tk 34 hHeld ?_
    (try simp only [pA,pZ,pS])
    refine wpAnyH_done (by kernel_rfl) ?_ _
    refine NoPanic.normal ?_
    go_wp2
    go_ret
    exact ⟨rfl,B3 _ _ _⟩
   ·go_simp
    (go_at_call 166;refine (zal _).mono ?_;rintro e' w' ⟨rfl,rfl⟩)
    (try go_wp2_with fail)
    refine hK.out _ _ ?hS5 (fun hHeld=>?_)
    case hS5=>((try dsimp only);(go_split_ands;refine ⟨?_,?_,?_,?_,?_,?_,?_,?_⟩ <;> first | (simp [go_sem];done) | exact zaa hb' (by assumption)))
    clear hK K
    (first | simp only [pA,pZ,pS] | simp only [pN] | skip)
    refine wpAnyH_ready (rs:=[3]) (by kernel_rfl) (by simp) (AllReadyH.cons (List.getElem?_toArray.trans rfl) (fun K hK=>?_) AllReadyH.nil)
    go_simp
    refine hK.out _ _ ?hS6 (fun hHeld=>?_)
    case hS6=>((try dsimp only);(go_split_ands;refine ⟨?_,?_,?_,?_,?_,?_,?_,?_⟩ <;> first | (simp [go_sem];done) | exact zaa hb' (by assumption)))
    clear hK K
    (first | simp only [pA,pZ,pS] | simp only [pN] | skip)
    refine wpAnyH_ready (rs:=[5]) (by kernel_rfl) (by simp) (AllReadyH.cons (List.getElem?_toArray.trans rfl) (fun K hK=>?_) AllReadyH.nil)
    go_simp
    (go_at_call 145;refine (hIs.out _ _ ?_).mono ?_;(first | exact za6 _ _ _ (by simp) | exact za7 _ _ _ _ (by simp));rintro e' w' ⟨rfl,rfl⟩)
    (try go_wp2_with fail)
    refine hK.out _ _ ?hS7 (fun hHeld=>?_)
    case hS7=>((try dsimp only);(go_split_ands;refine ⟨?_,?_,?_,?_,?_,?_,?_,?_⟩ <;> first | (simp [go_sem];done) | exact zaa hb' (by assumption)))
    clear hK K
    (first | simp only [pA,pZ,pS] | simp only [pN] | skip)
    refine tk 6 hHeld ?_
    (try simp only [pA,pZ,pS])
    refine tk 7 hHeld ?_
    refine tn 8 hHeld ?_
    refine tn 9 hHeld ?_
    refine tn 10 hHeld ?_
    (try simp only [pA,pZ,pS])
    refine tk 11 hHeld ?_
    (try simp only [pA,pZ,pS])
    refine tk 12 hHeld ?_
    refine tn 13 hHeld ?_
    refine tn 14 hHeld ?_
    refine tn 15 hHeld ?_
    (try simp only [pA,pZ,pS])
    refine tn 16 hHeld ?_
    (try simp only [pA,pZ,pS])
    refine tk 17 hHeld ?_
    (try simp only [pA,pZ,pS])
    refine tk 18 hHeld ?_
    refine tn 19 hHeld ?_
    refine tn 20 hHeld ?_
    refine tn 21 hHeld ?_
    (try simp only [pA,pZ,pS])
    refine tn 22 hHeld ?_
    refine tn 23 hHeld ?_
    (try simp only [pA,pZ,pS])
    refine tk 24 hHeld ?_
    (try simp only [pA,pZ,pS])
    refine tk 25 hHeld ?_
    refine tn 26 hHeld ?_
    refine tn 27 hHeld ?_
    refine tn 28 hHeld ?_
    (try simp only [pA,pZ,pS])
    refine tk 29 hHeld ?_
    (try simp only [pA,pZ,pS])
    refine tk 30 hHeld ?_
    refine tn 31 hHeld ?_
    refine tn 32 hHeld ?_
    refine tn 33 hHeld ?_
    (try simp only [pA,pZ,pS])
    refine tk 34 hHeld ?_
    (try simp only [pA,pZ,pS])
    refine wpAnyH_done (by kernel_rfl) ?_ _
    refine NoPanic.normal ?_
    go_wp2
    go_ret
    exact ⟨rfl,B3 _ _ _⟩
  ·go_simp
   (go_at_call 166;refine (zal _).mono ?_;rintro e' w' ⟨rfl,rfl⟩)
   (try go_wp2_with fail)
   refine hK.out _ _ ?hS8 (fun hHeld=>?_)
   case hS8=>((try dsimp only);(go_split_ands;refine ⟨?_,?_,?_,?_,?_,?_,?_,?_⟩ <;> first | (simp [go_sem];done) | exact zaa hb' (by assumption)))
   clear hK K
   (first | simp only [pA,pZ,pS] | simp only [pN] | skip)
   refine wpAnyH_ready (rs:=[2]) (by kernel_rfl) (by simp) (AllReadyH.cons (List.getElem?_toArray.trans rfl) (fun K hK=>?_) AllReadyH.nil)
   go_simp
   refine hK.out _ _ ?hS9 (fun hHeld=>?_)
   case hS9=>((try dsimp only);(go_split_ands;refine ⟨?_,?_,?_,?_,?_,?_,?_,?_⟩ <;> first | (simp [go_sem];done) | exact zaa hb' (by assumption)))
   clear hK K
   (first | simp only [pA,pZ,pS] | simp only [pN] | skip)
   refine wpAnyH_ready (rs:=[3]) (by kernel_rfl) (by simp) (AllReadyH.cons (List.getElem?_toArray.trans rfl) (fun K hK=>?_) AllReadyH.nil)
   go_simp
   refine hK.out _ _ ?hS10 (fun hHeld=>?_)
   case hS10=>((try dsimp only);(go_split_ands;refine ⟨?_,?_,?_,?_,?_,?_,?_,?_⟩ <;> first | (simp [go_sem];done) | exact zaa hb' (by assumption)))
   clear hK K
   (first | simp only [pA,pZ,pS] | simp only [pN] | skip)
   refine wpAnyH_ready (rs:=[5]) (by kernel_rfl) (by simp) (AllReadyH.cons (List.getElem?_toArray.trans rfl) (fun K hK=>?_) AllReadyH.nil)
   go_simp
   (go_at_call 145;refine (hIs.out _ _ ?_).mono ?_;(first | exact za6 _ _ _ (by simp) | exact za7 _ _ _ _ (by simp));rintro e' w' ⟨rfl,rfl⟩)
   (try go_wp2_with fail)
   refine hK.out _ _ ?hS11 (fun hHeld=>?_)
   case hS11=>((try dsimp only);(go_split_ands;refine ⟨?_,?_,?_,?_,?_,?_,?_,?_⟩ <;> first | (simp [go_sem];done) | exact zaa hb' (by assumption)))
   clear hK K
   (first | simp only [pA,pZ,pS] | simp only [pN] | skip)
   refine tk 6 hHeld ?_
   (try simp only [pA,pZ,pS])
   refine tk 7 hHeld ?_
   refine tn 8 hHeld ?_
   refine tn 9 hHeld ?_
   refine tn 10 hHeld ?_
   (try simp only [pA,pZ,pS])
   refine tk 11 hHeld ?_
   (try simp only [pA,pZ,pS])
   refine tk 12 hHeld ?_
   refine tn 13 hHeld ?_
   refine tn 14 hHeld ?_
   refine tn 15 hHeld ?_
   (try simp only [pA,pZ,pS])
   refine tn 16 hHeld ?_
   (try simp only [pA,pZ,pS])
   refine tk 17 hHeld ?_
   (try simp only [pA,pZ,pS])
   refine tk 18 hHeld ?_
   refine tn 19 hHeld ?_
   refine tn 20 hHeld ?_
   refine tn 21 hHeld ?_
   (try simp only [pA,pZ,pS])
   refine tn 22 hHeld ?_
   refine tn 23 hHeld ?_
   (try simp only [pA,pZ,pS])
   refine tk 24 hHeld ?_
   (try simp only [pA,pZ,pS])
   refine tk 25 hHeld ?_
   refine tn 26 hHeld ?_
   refine tn 27 hHeld ?_
   refine tn 28 hHeld ?_
   (try simp only [pA,pZ,pS])
   refine tk 29 hHeld ?_
   (try simp only [pA,pZ,pS])
   refine tk 30 hHeld ?_
   refine tn 31 hHeld ?_
   refine tn 32 hHeld ?_
   refine tn 33 hHeld ?_
   (try simp only [pA,pZ,pS])
   refine tk 34 hHeld ?_
   (try simp only [pA,pZ,pS])
   refine wpAnyH_done (by kernel_rfl) ?_ _
   refine NoPanic.normal ?_
   go_wp2
   go_ret
   exact ⟨rfl,B3 _ _ _⟩
 ·go_enter Tryz.func143,Tryz.ntmps143
  go_wp2
  clear c0 c1 c2 c3 c4 c5 c6 c7 he hkl hv0
  (try clear h3);(try clear h2);clear h1
  refine wp_region_noPanic ?_
  refine wp_region_held_drew (S:=(fun w'=>w'.cell? ⟨w.heap.size,0,none⟩=some (.int .i64 2)∧w'.cell? ⟨w.heap.size,1,none⟩=some (.int .u8 e.op)∧w'.cell? ⟨w.heap.size,2,none⟩=some (.string e.var)∧w'.cell? ⟨w.heap.size,3,none⟩=some (.int .i64 e.val.kind)∧w'.cell? ⟨w.heap.size,4,none⟩=some (.int .i64 e.val.num)∧w'.cell? ⟨w.heap.size,5,none⟩=some (.string e.val.sym)∧w'.cell? ⟨w.heap.size,6,none⟩=some (.int .i64 e.a)∧w'.cell? ⟨w.heap.size,7,none⟩=some (.int .i64 e.b))) (by kernel_rfl) ?_ (fun hHeld=>?_)
  ·(try dsimp only)
   (go_split_ands;refine ⟨?_,?_,?_,?_,?_,?_,?_,?_⟩ <;> first | (simp [go_sem];done) | exact zaa hb' (by assumption))
  refine tk 0 hHeld ?_
  (try simp only [pA,pZ,pS])
  refine tk 1 hHeld ?_
  (try simp only [pA,pZ,pS])
  refine wpAnyH_ready (rs:=[2,4]) (by kernel_rfl) (by simp) (AllReadyH.cons (List.getElem?_toArray.trans rfl) (fun K hK=>?_) (AllReadyH.cons (List.getElem?_toArray.trans rfl) (fun K hK=>?_) AllReadyH.nil))
  ·go_simp
   refine hK.out _ _ ?hS12 (fun hHeld=>?_)
   case hS12=>((try dsimp only);(go_split_ands;refine ⟨?_,?_,?_,?_,?_,?_,?_,?_⟩ <;> first | (simp [go_sem];done) | exact zaa hb' (by assumption)))
   clear hK K
   (first | simp only [pA,pZ,pS] | simp only [pN] | skip)
   refine wpAnyH_ready (rs:=[3,4]) (by kernel_rfl) (by simp) (AllReadyH.cons (List.getElem?_toArray.trans rfl) (fun K hK=>?_) (AllReadyH.cons (List.getElem?_toArray.trans rfl) (fun K hK=>?_) AllReadyH.nil))
   ·go_simp
    refine hK.out _ _ ?hS13 (fun hHeld=>?_)
    case hS13=>((try dsimp only);(go_split_ands;refine ⟨?_,?_,?_,?_,?_,?_,?_,?_⟩ <;> first | (simp [go_sem];done) | exact zaa hb' (by assumption)))
    clear hK K
    (first | simp only [pA,pZ,pS] | simp only [pN] | skip)
    refine wpAnyH_ready (rs:=[4]) (by kernel_rfl) (by simp) (AllReadyH.cons (List.getElem?_toArray.trans rfl) (fun K hK=>?_) AllReadyH.nil)
    go_simp
    (go_at_call 166;refine (zal _).mono ?_;rintro e' w' ⟨rfl,rfl⟩)
    (try go_wp2_with fail)
    refine hK.out _ _ ?hS14 (fun hHeld=>?_)
    case hS14=>((try dsimp only);(go_split_ands;refine ⟨?_,?_,?_,?_,?_,?_,?_,?_⟩ <;> first | (simp [go_sem];done) | exact zaa hb' (by assumption)))
    clear hK K
    (first | simp only [pA,pZ,pS] | simp only [pN] | skip)
    refine wpAnyH_ready (rs:=[5]) (by kernel_rfl) (by simp) (AllReadyH.cons (List.getElem?_toArray.trans rfl) (fun K hK=>?_) AllReadyH.nil)
    go_simp
    (go_at_call 145;refine (hIs.out _ _ ?_).mono ?_;(first | exact za6 _ _ _ (by simp) | exact za7 _ _ _ _ (by simp));rintro e' w' ⟨rfl,rfl⟩)
    (try go_wp2_with fail)
    refine hK.out _ _ ?hS15 (fun hHeld=>?_)
    case hS15=>((try dsimp only);(go_split_ands;refine ⟨?_,?_,?_,?_,?_,?_,?_,?_⟩ <;> first | (simp [go_sem];done) | exact zaa hb' (by assumption)))
    clear hK K
    (first | simp only [pA,pZ,pS] | simp only [pN] | skip)
    refine tk 6 hHeld ?_
    (try simp only [pA,pZ,pS])
    refine tk 7 hHeld ?_
    refine tn 8 hHeld ?_
    refine tn 9 hHeld ?_
    refine tn 10 hHeld ?_
    (try simp only [pA,pZ,pS])
    refine tk 11 hHeld ?_
    (try simp only [pA,pZ,pS])
    refine tk 12 hHeld ?_
    refine tn 13 hHeld ?_
    refine tn 14 hHeld ?_
    refine tn 15 hHeld ?_
    (try simp only [pA,pZ,pS])
    refine tn 16 hHeld ?_
    (try simp only [pA,pZ,pS])
    refine tk 17 hHeld ?_
    (try simp only [pA,pZ,pS])
    refine tk 18 hHeld ?_
    refine tn 19 hHeld ?_
    refine tn 20 hHeld ?_
    refine tn 21 hHeld ?_
    (try simp only [pA,pZ,pS])
    refine tn 22 hHeld ?_
    refine tn 23 hHeld ?_
    (try simp only [pA,pZ,pS])
    refine tk 24 hHeld ?_
    (try simp only [pA,pZ,pS])
    refine tk 25 hHeld ?_
    refine tn 26 hHeld ?_
    refine tn 27 hHeld ?_
    refine tn 28 hHeld ?_
    (try simp only [pA,pZ,pS])
    refine tk 29 hHeld ?_
    (try simp only [pA,pZ,pS])
    refine tk 30 hHeld ?_
    refine tn 31 hHeld ?_
    refine tn 32 hHeld ?_
    refine tn 33 hHeld ?_
    (try simp only [pA,pZ,pS])
    refine tk 34 hHeld ?_
    (try simp only [pA,pZ,pS])
    refine wpAnyH_done (by kernel_rfl) ?_ _
    refine NoPanic.normal ?_
    go_wp2
    go_ret
    exact ⟨rfl,B3 _ _ _⟩
   ·go_simp
    (go_at_call 166;refine (zal _).mono ?_;rintro e' w' ⟨rfl,rfl⟩)
    (try go_wp2_with fail)
    refine hK.out _ _ ?hS16 (fun hHeld=>?_)
    case hS16=>((try dsimp only);(go_split_ands;refine ⟨?_,?_,?_,?_,?_,?_,?_,?_⟩ <;> first | (simp [go_sem];done) | exact zaa hb' (by assumption)))
    clear hK K
    (first | simp only [pA,pZ,pS] | simp only [pN] | skip)
    refine wpAnyH_ready (rs:=[3]) (by kernel_rfl) (by simp) (AllReadyH.cons (List.getElem?_toArray.trans rfl) (fun K hK=>?_) AllReadyH.nil)
    go_simp
    refine hK.out _ _ ?hS17 (fun hHeld=>?_)
    case hS17=>((try dsimp only);(go_split_ands;refine ⟨?_,?_,?_,?_,?_,?_,?_,?_⟩ <;> first | (simp [go_sem];done) | exact zaa hb' (by assumption)))
    clear hK K
    (first | simp only [pA,pZ,pS] | simp only [pN] | skip)
    refine wpAnyH_ready (rs:=[5]) (by kernel_rfl) (by simp) (AllReadyH.cons (List.getElem?_toArray.trans rfl) (fun K hK=>?_) AllReadyH.nil)
    go_simp
    (go_at_call 145;refine (hIs.out _ _ ?_).mono ?_;(first | exact za6 _ _ _ (by simp) | exact za7 _ _ _ _ (by simp));rintro e' w' ⟨rfl,rfl⟩)
    (try go_wp2_with fail)
    refine hK.out _ _ ?hS18 (fun hHeld=>?_)
    case hS18=>((try dsimp only);(go_split_ands;refine ⟨?_,?_,?_,?_,?_,?_,?_,?_⟩ <;> first | (simp [go_sem];done) | exact zaa hb' (by assumption)))
    clear hK K
    (first | simp only [pA,pZ,pS] | simp only [pN] | skip)
    refine tk 6 hHeld ?_
    (try simp only [pA,pZ,pS])
    refine tk 7 hHeld ?_
    refine tn 8 hHeld ?_
    refine tn 9 hHeld ?_
    refine tn 10 hHeld ?_
    (try simp only [pA,pZ,pS])
    refine tk 11 hHeld ?_
    (try simp only [pA,pZ,pS])
    refine tk 12 hHeld ?_
    refine tn 13 hHeld ?_
    refine tn 14 hHeld ?_
    refine tn 15 hHeld ?_
    (try simp only [pA,pZ,pS])
    refine tn 16 hHeld ?_
    (try simp only [pA,pZ,pS])
    refine tk 17 hHeld ?_
    (try simp only [pA,pZ,pS])
    refine tk 18 hHeld ?_
    refine tn 19 hHeld ?_
    refine tn 20 hHeld ?_
    refine tn 21 hHeld ?_
    (try simp only [pA,pZ,pS])
    refine tn 22 hHeld ?_
    refine tn 23 hHeld ?_
    (try simp only [pA,pZ,pS])
    refine tk 24 hHeld ?_
    (try simp only [pA,pZ,pS])
    refine tk 25 hHeld ?_
    refine tn 26 hHeld ?_
    refine tn 27 hHeld ?_
    refine tn 28 hHeld ?_
    (try simp only [pA,pZ,pS])
    refine tk 29 hHeld ?_
    (try simp only [pA,pZ,pS])
    refine tk 30 hHeld ?_
    refine tn 31 hHeld ?_
    refine tn 32 hHeld ?_
    refine tn 33 hHeld ?_
    (try simp only [pA,pZ,pS])
    refine tk 34 hHeld ?_
    (try simp only [pA,pZ,pS])
    refine wpAnyH_done (by kernel_rfl) ?_ _
    refine NoPanic.normal ?_
    go_wp2
    go_ret
    exact ⟨rfl,B3 _ _ _⟩
  ·go_simp
   (go_at_call 166;refine (zal _).mono ?_;rintro e' w' ⟨rfl,rfl⟩)
   (try go_wp2_with fail)
   refine hK.out _ _ ?hS19 (fun hHeld=>?_)
   case hS19=>((try dsimp only);(go_split_ands;refine ⟨?_,?_,?_,?_,?_,?_,?_,?_⟩ <;> first | (simp [go_sem];done) | exact zaa hb' (by assumption)))
   clear hK K
   (first | simp only [pA,pZ,pS] | simp only [pN] | skip)
   refine wpAnyH_ready (rs:=[2]) (by kernel_rfl) (by simp) (AllReadyH.cons (List.getElem?_toArray.trans rfl) (fun K hK=>?_) AllReadyH.nil)
   go_simp
   refine hK.out _ _ ?hS20 (fun hHeld=>?_)
   case hS20=>((try dsimp only);(go_split_ands;refine ⟨?_,?_,?_,?_,?_,?_,?_,?_⟩ <;> first | (simp [go_sem];done) | exact zaa hb' (by assumption)))
   clear hK K
   (first | simp only [pA,pZ,pS] | simp only [pN] | skip)
   refine wpAnyH_ready (rs:=[3]) (by kernel_rfl) (by simp) (AllReadyH.cons (List.getElem?_toArray.trans rfl) (fun K hK=>?_) AllReadyH.nil)
   go_simp
   refine hK.out _ _ ?hS21 (fun hHeld=>?_)
   case hS21=>((try dsimp only);(go_split_ands;refine ⟨?_,?_,?_,?_,?_,?_,?_,?_⟩ <;> first | (simp [go_sem];done) | exact zaa hb' (by assumption)))
   clear hK K
   (first | simp only [pA,pZ,pS] | simp only [pN] | skip)
   refine wpAnyH_ready (rs:=[5]) (by kernel_rfl) (by simp) (AllReadyH.cons (List.getElem?_toArray.trans rfl) (fun K hK=>?_) AllReadyH.nil)
   go_simp
   (go_at_call 145;refine (hIs.out _ _ ?_).mono ?_;(first | exact za6 _ _ _ (by simp) | exact za7 _ _ _ _ (by simp));rintro e' w' ⟨rfl,rfl⟩)
   (try go_wp2_with fail)
   refine hK.out _ _ ?hS22 (fun hHeld=>?_)
   case hS22=>((try dsimp only);(go_split_ands;refine ⟨?_,?_,?_,?_,?_,?_,?_,?_⟩ <;> first | (simp [go_sem];done) | exact zaa hb' (by assumption)))
   clear hK K
   (first | simp only [pA,pZ,pS] | simp only [pN] | skip)
   refine tk 6 hHeld ?_
   (try simp only [pA,pZ,pS])
   refine tk 7 hHeld ?_
   refine tn 8 hHeld ?_
   refine tn 9 hHeld ?_
   refine tn 10 hHeld ?_
   (try simp only [pA,pZ,pS])
   refine tk 11 hHeld ?_
   (try simp only [pA,pZ,pS])
   refine tk 12 hHeld ?_
   refine tn 13 hHeld ?_
   refine tn 14 hHeld ?_
   refine tn 15 hHeld ?_
   (try simp only [pA,pZ,pS])
   refine tn 16 hHeld ?_
   (try simp only [pA,pZ,pS])
   refine tk 17 hHeld ?_
   (try simp only [pA,pZ,pS])
   refine tk 18 hHeld ?_
   refine tn 19 hHeld ?_
   refine tn 20 hHeld ?_
   refine tn 21 hHeld ?_
   (try simp only [pA,pZ,pS])
   refine tn 22 hHeld ?_
   refine tn 23 hHeld ?_
   (try simp only [pA,pZ,pS])
   refine tk 24 hHeld ?_
   (try simp only [pA,pZ,pS])
   refine tk 25 hHeld ?_
   refine tn 26 hHeld ?_
   refine tn 27 hHeld ?_
   refine tn 28 hHeld ?_
   (try simp only [pA,pZ,pS])
   refine tk 29 hHeld ?_
   (try simp only [pA,pZ,pS])
   refine tk 30 hHeld ?_
   refine tn 31 hHeld ?_
   refine tn 32 hHeld ?_
   refine tn 33 hHeld ?_
   (try simp only [pA,pZ,pS])
   refine tk 34 hHeld ?_
   (try simp only [pA,pZ,pS])
   refine wpAnyH_done (by kernel_rfl) ?_ _
   refine NoPanic.normal ?_
   go_wp2
   go_ret
   exact ⟨rfl,B3 _ _ _⟩
 ·go_enter Tryz.func143,Tryz.ntmps143
  go_wp2
  clear c0 c1 c2 c3 c4 c5 c6 c7 he hkl hv0
  (try clear h3);(try clear h2);clear h1
  refine wp_region_noPanic ?_
  refine wp_region_held_drew (S:=(fun w'=>w'.cell? ⟨w.heap.size,0,none⟩=some (.int .i64 2)∧w'.cell? ⟨w.heap.size,1,none⟩=some (.int .u8 e.op)∧w'.cell? ⟨w.heap.size,2,none⟩=some (.string e.var)∧w'.cell? ⟨w.heap.size,3,none⟩=some (.int .i64 e.val.kind)∧w'.cell? ⟨w.heap.size,4,none⟩=some (.int .i64 e.val.num)∧w'.cell? ⟨w.heap.size,5,none⟩=some (.string e.val.sym)∧w'.cell? ⟨w.heap.size,6,none⟩=some (.int .i64 e.a)∧w'.cell? ⟨w.heap.size,7,none⟩=some (.int .i64 e.b))) (by kernel_rfl) ?_ (fun hHeld=>?_)
  ·(try dsimp only)
   (go_split_ands;refine ⟨?_,?_,?_,?_,?_,?_,?_,?_⟩ <;> first | (simp [go_sem];done) | exact zaa hb' (by assumption))
  refine tk 0 hHeld ?_
  (try simp only [pA,pZ,pS])
  refine tk 1 hHeld ?_
  (try simp only [pA,pZ,pS])
  refine wpAnyH_ready (rs:=[2,4]) (by kernel_rfl) (by simp) (AllReadyH.cons (List.getElem?_toArray.trans rfl) (fun K hK=>?_) (AllReadyH.cons (List.getElem?_toArray.trans rfl) (fun K hK=>?_) AllReadyH.nil))
  ·go_simp
   refine hK.out _ _ ?hS23 (fun hHeld=>?_)
   case hS23=>((try dsimp only);(go_split_ands;refine ⟨?_,?_,?_,?_,?_,?_,?_,?_⟩ <;> first | (simp [go_sem];done) | exact zaa hb' (by assumption)))
   clear hK K
   (first | simp only [pA,pZ,pS] | simp only [pN] | skip)
   refine wpAnyH_ready (rs:=[3,4]) (by kernel_rfl) (by simp) (AllReadyH.cons (List.getElem?_toArray.trans rfl) (fun K hK=>?_) (AllReadyH.cons (List.getElem?_toArray.trans rfl) (fun K hK=>?_) AllReadyH.nil))
   ·go_simp
    refine hK.out _ _ ?hS24 (fun hHeld=>?_)
    case hS24=>((try dsimp only);(go_split_ands;refine ⟨?_,?_,?_,?_,?_,?_,?_,?_⟩ <;> first | (simp [go_sem];done) | exact zaa hb' (by assumption)))
    clear hK K
    (first | simp only [pA,pZ,pS] | simp only [pN] | skip)
    refine wpAnyH_ready (rs:=[4]) (by kernel_rfl) (by simp) (AllReadyH.cons (List.getElem?_toArray.trans rfl) (fun K hK=>?_) AllReadyH.nil)
    go_simp
    (go_at_call 166;refine (zal _).mono ?_;rintro e' w' ⟨rfl,rfl⟩)
    (try go_wp2_with fail)
    refine hK.out _ _ ?hS25 (fun hHeld=>?_)
    case hS25=>((try dsimp only);(go_split_ands;refine ⟨?_,?_,?_,?_,?_,?_,?_,?_⟩ <;> first | (simp [go_sem];done) | exact zaa hb' (by assumption)))
    clear hK K
    (first | simp only [pA,pZ,pS] | simp only [pN] | skip)
    refine wpAnyH_ready (rs:=[5]) (by kernel_rfl) (by simp) (AllReadyH.cons (List.getElem?_toArray.trans rfl) (fun K hK=>?_) AllReadyH.nil)
    go_simp
    (go_at_call 145;refine (hIs.out _ _ ?_).mono ?_;(first | exact za6 _ _ _ (by simp) | exact za7 _ _ _ _ (by simp));rintro e' w' ⟨rfl,rfl⟩)
    (try go_wp2_with fail)
    refine hK.out _ _ ?hS26 (fun hHeld=>?_)
    case hS26=>((try dsimp only);(go_split_ands;refine ⟨?_,?_,?_,?_,?_,?_,?_,?_⟩ <;> first | (simp [go_sem];done) | exact zaa hb' (by assumption)))
    clear hK K
    (first | simp only [pA,pZ,pS] | simp only [pN] | skip)
    refine tk 6 hHeld ?_
    (try simp only [pA,pZ,pS])
    refine tk 7 hHeld ?_
    refine tn 8 hHeld ?_
    refine tn 9 hHeld ?_
    refine tn 10 hHeld ?_
    (try simp only [pA,pZ,pS])
    refine tk 11 hHeld ?_
    (try simp only [pA,pZ,pS])
    refine tk 12 hHeld ?_
    refine tn 13 hHeld ?_
    refine tn 14 hHeld ?_
    refine tn 15 hHeld ?_
    (try simp only [pA,pZ,pS])
    refine tn 16 hHeld ?_
    (try simp only [pA,pZ,pS])
    refine tk 17 hHeld ?_
    (try simp only [pA,pZ,pS])
    refine tk 18 hHeld ?_
    refine tn 19 hHeld ?_
    refine tn 20 hHeld ?_
    refine tn 21 hHeld ?_
    (try simp only [pA,pZ,pS])
    refine tn 22 hHeld ?_
    refine tn 23 hHeld ?_
    (try simp only [pA,pZ,pS])
    refine tk 24 hHeld ?_
    (try simp only [pA,pZ,pS])
    refine tk 25 hHeld ?_
    refine tn 26 hHeld ?_
    refine tn 27 hHeld ?_
    refine tn 28 hHeld ?_
    (try simp only [pA,pZ,pS])
    refine tk 29 hHeld ?_
    (try simp only [pA,pZ,pS])
    refine tk 30 hHeld ?_
    refine tn 31 hHeld ?_
    refine tn 32 hHeld ?_
    refine tn 33 hHeld ?_
    (try simp only [pA,pZ,pS])
    refine tk 34 hHeld ?_
    (try simp only [pA,pZ,pS])
    refine wpAnyH_done (by kernel_rfl) ?_ _
    refine NoPanic.normal ?_
    go_wp2
    go_ret
    exact ⟨rfl,B3 _ _ _⟩
   ·go_simp
    (go_at_call 166;refine (zal _).mono ?_;rintro e' w' ⟨rfl,rfl⟩)
    (try go_wp2_with fail)
    refine hK.out _ _ ?hS27 (fun hHeld=>?_)
    case hS27=>((try dsimp only);(go_split_ands;refine ⟨?_,?_,?_,?_,?_,?_,?_,?_⟩ <;> first | (simp [go_sem];done) | exact zaa hb' (by assumption)))
    clear hK K
    (first | simp only [pA,pZ,pS] | simp only [pN] | skip)
    refine wpAnyH_ready (rs:=[3]) (by kernel_rfl) (by simp) (AllReadyH.cons (List.getElem?_toArray.trans rfl) (fun K hK=>?_) AllReadyH.nil)
    go_simp
    refine hK.out _ _ ?hS28 (fun hHeld=>?_)
    case hS28=>((try dsimp only);(go_split_ands;refine ⟨?_,?_,?_,?_,?_,?_,?_,?_⟩ <;> first | (simp [go_sem];done) | exact zaa hb' (by assumption)))
    clear hK K
    (first | simp only [pA,pZ,pS] | simp only [pN] | skip)
    refine wpAnyH_ready (rs:=[5]) (by kernel_rfl) (by simp) (AllReadyH.cons (List.getElem?_toArray.trans rfl) (fun K hK=>?_) AllReadyH.nil)
    go_simp
    (go_at_call 145;refine (hIs.out _ _ ?_).mono ?_;(first | exact za6 _ _ _ (by simp) | exact za7 _ _ _ _ (by simp));rintro e' w' ⟨rfl,rfl⟩)
    (try go_wp2_with fail)
    refine hK.out _ _ ?hS29 (fun hHeld=>?_)
    case hS29=>((try dsimp only);(go_split_ands;refine ⟨?_,?_,?_,?_,?_,?_,?_,?_⟩ <;> first | (simp [go_sem];done) | exact zaa hb' (by assumption)))
    clear hK K
    (first | simp only [pA,pZ,pS] | simp only [pN] | skip)
    refine tk 6 hHeld ?_
    (try simp only [pA,pZ,pS])
    refine tk 7 hHeld ?_
    refine tn 8 hHeld ?_
    refine tn 9 hHeld ?_
    refine tn 10 hHeld ?_
    (try simp only [pA,pZ,pS])
    refine tk 11 hHeld ?_
    (try simp only [pA,pZ,pS])
    refine tk 12 hHeld ?_
    refine tn 13 hHeld ?_
    refine tn 14 hHeld ?_
    refine tn 15 hHeld ?_
    (try simp only [pA,pZ,pS])
    refine tn 16 hHeld ?_
    (try simp only [pA,pZ,pS])
    refine tk 17 hHeld ?_
    (try simp only [pA,pZ,pS])
    refine tk 18 hHeld ?_
    refine tn 19 hHeld ?_
    refine tn 20 hHeld ?_
    refine tn 21 hHeld ?_
    (try simp only [pA,pZ,pS])
    refine tn 22 hHeld ?_
    refine tn 23 hHeld ?_
    (try simp only [pA,pZ,pS])
    refine tk 24 hHeld ?_
    (try simp only [pA,pZ,pS])
    refine tk 25 hHeld ?_
    refine tn 26 hHeld ?_
    refine tn 27 hHeld ?_
    refine tn 28 hHeld ?_
    (try simp only [pA,pZ,pS])
    refine tk 29 hHeld ?_
    (try simp only [pA,pZ,pS])
    refine tk 30 hHeld ?_
    refine tn 31 hHeld ?_
    refine tn 32 hHeld ?_
    refine tn 33 hHeld ?_
    (try simp only [pA,pZ,pS])
    refine tk 34 hHeld ?_
    (try simp only [pA,pZ,pS])
    refine wpAnyH_done (by kernel_rfl) ?_ _
    refine NoPanic.normal ?_
    go_wp2
    go_ret
    exact ⟨rfl,B3 _ _ _⟩
  ·go_simp
   (go_at_call 166;refine (zal _).mono ?_;rintro e' w' ⟨rfl,rfl⟩)
   (try go_wp2_with fail)
   refine hK.out _ _ ?hS30 (fun hHeld=>?_)
   case hS30=>((try dsimp only);(go_split_ands;refine ⟨?_,?_,?_,?_,?_,?_,?_,?_⟩ <;> first | (simp [go_sem];done) | exact zaa hb' (by assumption)))
   clear hK K
   (first | simp only [pA,pZ,pS] | simp only [pN] | skip)
   refine wpAnyH_ready (rs:=[2]) (by kernel_rfl) (by simp) (AllReadyH.cons (List.getElem?_toArray.trans rfl) (fun K hK=>?_) AllReadyH.nil)
   go_simp
   refine hK.out _ _ ?hS31 (fun hHeld=>?_)
   case hS31=>((try dsimp only);(go_split_ands;refine ⟨?_,?_,?_,?_,?_,?_,?_,?_⟩ <;> first | (simp [go_sem];done) | exact zaa hb' (by assumption)))
   clear hK K
   (first | simp only [pA,pZ,pS] | simp only [pN] | skip)
   refine wpAnyH_ready (rs:=[3]) (by kernel_rfl) (by simp) (AllReadyH.cons (List.getElem?_toArray.trans rfl) (fun K hK=>?_) AllReadyH.nil)
   go_simp
   refine hK.out _ _ ?hS32 (fun hHeld=>?_)
   case hS32=>((try dsimp only);(go_split_ands;refine ⟨?_,?_,?_,?_,?_,?_,?_,?_⟩ <;> first | (simp [go_sem];done) | exact zaa hb' (by assumption)))
   clear hK K
   (first | simp only [pA,pZ,pS] | simp only [pN] | skip)
   refine wpAnyH_ready (rs:=[5]) (by kernel_rfl) (by simp) (AllReadyH.cons (List.getElem?_toArray.trans rfl) (fun K hK=>?_) AllReadyH.nil)
   go_simp
   (go_at_call 145;refine (hIs.out _ _ ?_).mono ?_;(first | exact za6 _ _ _ (by simp) | exact za7 _ _ _ _ (by simp));rintro e' w' ⟨rfl,rfl⟩)
   (try go_wp2_with fail)
   refine hK.out _ _ ?hS33 (fun hHeld=>?_)
   case hS33=>((try dsimp only);(go_split_ands;refine ⟨?_,?_,?_,?_,?_,?_,?_,?_⟩ <;> first | (simp [go_sem];done) | exact zaa hb' (by assumption)))
   clear hK K
   (first | simp only [pA,pZ,pS] | simp only [pN] | skip)
   refine tk 6 hHeld ?_
   (try simp only [pA,pZ,pS])
   refine tk 7 hHeld ?_
   refine tn 8 hHeld ?_
   refine tn 9 hHeld ?_
   refine tn 10 hHeld ?_
   (try simp only [pA,pZ,pS])
   refine tk 11 hHeld ?_
   (try simp only [pA,pZ,pS])
   refine tk 12 hHeld ?_
   refine tn 13 hHeld ?_
   refine tn 14 hHeld ?_
   refine tn 15 hHeld ?_
   (try simp only [pA,pZ,pS])
   refine tn 16 hHeld ?_
   (try simp only [pA,pZ,pS])
   refine tk 17 hHeld ?_
   (try simp only [pA,pZ,pS])
   refine tk 18 hHeld ?_
   refine tn 19 hHeld ?_
   refine tn 20 hHeld ?_
   refine tn 21 hHeld ?_
   (try simp only [pA,pZ,pS])
   refine tn 22 hHeld ?_
   refine tn 23 hHeld ?_
   (try simp only [pA,pZ,pS])
   refine tk 24 hHeld ?_
   (try simp only [pA,pZ,pS])
   refine tk 25 hHeld ?_
   refine tn 26 hHeld ?_
   refine tn 27 hHeld ?_
   refine tn 28 hHeld ?_
   (try simp only [pA,pZ,pS])
   refine tk 29 hHeld ?_
   (try simp only [pA,pZ,pS])
   refine tk 30 hHeld ?_
   refine tn 31 hHeld ?_
   refine tn 32 hHeld ?_
   refine tn 33 hHeld ?_
   (try simp only [pA,pZ,pS])
   refine tk 34 hHeld ?_
   (try simp only [pA,pZ,pS])
   refine wpAnyH_done (by kernel_rfl) ?_ _
   refine NoPanic.normal ?_
   go_wp2
   go_ret
   exact ⟨rfl,B3 _ _ _⟩
 ·go_enter Tryz.func143,Tryz.ntmps143
  go_wp2
  clear c0 c1 c2 c3 c4 c5 c6 c7 he hkl hv0
  (try clear h3);(try clear h2);clear h1
  refine wp_region_noPanic ?_
  refine wp_region_held_drew (S:=(fun w'=>w'.cell? ⟨w.heap.size,0,none⟩=some (.int .i64 2)∧w'.cell? ⟨w.heap.size,1,none⟩=some (.int .u8 e.op)∧w'.cell? ⟨w.heap.size,2,none⟩=some (.string e.var)∧w'.cell? ⟨w.heap.size,3,none⟩=some (.int .i64 e.val.kind)∧w'.cell? ⟨w.heap.size,4,none⟩=some (.int .i64 e.val.num)∧w'.cell? ⟨w.heap.size,5,none⟩=some (.string e.val.sym)∧w'.cell? ⟨w.heap.size,6,none⟩=some (.int .i64 e.a)∧w'.cell? ⟨w.heap.size,7,none⟩=some (.int .i64 e.b))) (by kernel_rfl) ?_ (fun hHeld=>?_)
  ·(try dsimp only)
   (go_split_ands;refine ⟨?_,?_,?_,?_,?_,?_,?_,?_⟩ <;> first | (simp [go_sem];done) | exact zaa hb' (by assumption))
  refine tk 0 hHeld ?_
  (try simp only [pA,pZ,pS])
  refine tk 1 hHeld ?_
  (try simp only [pA,pZ,pS])
  refine wpAnyH_ready (rs:=[2,4]) (by kernel_rfl) (by simp) (AllReadyH.cons (List.getElem?_toArray.trans rfl) (fun K hK=>?_) (AllReadyH.cons (List.getElem?_toArray.trans rfl) (fun K hK=>?_) AllReadyH.nil))
  ·go_simp
   refine hK.out _ _ ?hS34 (fun hHeld=>?_)
   case hS34=>((try dsimp only);(go_split_ands;refine ⟨?_,?_,?_,?_,?_,?_,?_,?_⟩ <;> first | (simp [go_sem];done) | exact zaa hb' (by assumption)))
   clear hK K
   (first | simp only [pA,pZ,pS] | simp only [pN] | skip)
   refine wpAnyH_ready (rs:=[3,4]) (by kernel_rfl) (by simp) (AllReadyH.cons (List.getElem?_toArray.trans rfl) (fun K hK=>?_) (AllReadyH.cons (List.getElem?_toArray.trans rfl) (fun K hK=>?_) AllReadyH.nil))
   ·go_simp
    refine hK.out _ _ ?hS35 (fun hHeld=>?_)
    case hS35=>((try dsimp only);(go_split_ands;refine ⟨?_,?_,?_,?_,?_,?_,?_,?_⟩ <;> first | (simp [go_sem];done) | exact zaa hb' (by assumption)))
    clear hK K
    (first | simp only [pA,pZ,pS] | simp only [pN] | skip)
    refine wpAnyH_ready (rs:=[4]) (by kernel_rfl) (by simp) (AllReadyH.cons (List.getElem?_toArray.trans rfl) (fun K hK=>?_) AllReadyH.nil)
    go_simp
    (go_at_call 166;refine (zal _).mono ?_;rintro e' w' ⟨rfl,rfl⟩)
    (try go_wp2_with fail)
    refine hK.out _ _ ?hS36 (fun hHeld=>?_)
    case hS36=>((try dsimp only);(go_split_ands;refine ⟨?_,?_,?_,?_,?_,?_,?_,?_⟩ <;> first | (simp [go_sem];done) | exact zaa hb' (by assumption)))
    clear hK K
    (first | simp only [pA,pZ,pS] | simp only [pN] | skip)
    refine wpAnyH_ready (rs:=[5]) (by kernel_rfl) (by simp) (AllReadyH.cons (List.getElem?_toArray.trans rfl) (fun K hK=>?_) AllReadyH.nil)
    go_simp
    (go_at_call 145;refine (hIs.out _ _ ?_).mono ?_;(first | exact za6 _ _ _ (by simp) | exact za7 _ _ _ _ (by simp));rintro e' w' ⟨rfl,rfl⟩)
    (try go_wp2_with fail)
    refine hK.out _ _ ?hS37 (fun hHeld=>?_)
    case hS37=>((try dsimp only);(go_split_ands;refine ⟨?_,?_,?_,?_,?_,?_,?_,?_⟩ <;> first | (simp [go_sem];done) | exact zaa hb' (by assumption)))
    clear hK K
    (first | simp only [pA,pZ,pS] | simp only [pN] | skip)
    refine tk 6 hHeld ?_
    (try simp only [pA,pZ,pS])
    refine tk 7 hHeld ?_
    refine tn 8 hHeld ?_
    refine tn 9 hHeld ?_
    refine tn 10 hHeld ?_
    (try simp only [pA,pZ,pS])
    refine tk 11 hHeld ?_
    (try simp only [pA,pZ,pS])
    refine tk 12 hHeld ?_
    refine tn 13 hHeld ?_
    refine tn 14 hHeld ?_
    refine tn 15 hHeld ?_
    (try simp only [pA,pZ,pS])
    refine tn 16 hHeld ?_
    (try simp only [pA,pZ,pS])
    refine tk 17 hHeld ?_
    (try simp only [pA,pZ,pS])
    refine tk 18 hHeld ?_
    refine tn 19 hHeld ?_
    refine tn 20 hHeld ?_
    refine tn 21 hHeld ?_
    (try simp only [pA,pZ,pS])
    refine tn 22 hHeld ?_
    refine tn 23 hHeld ?_
    (try simp only [pA,pZ,pS])
    refine tk 24 hHeld ?_
    (try simp only [pA,pZ,pS])
    refine tk 25 hHeld ?_
    refine tn 26 hHeld ?_
    refine tn 27 hHeld ?_
    refine tn 28 hHeld ?_
    (try simp only [pA,pZ,pS])
    refine tk 29 hHeld ?_
    (try simp only [pA,pZ,pS])
    refine tk 30 hHeld ?_
    refine tn 31 hHeld ?_
    refine tn 32 hHeld ?_
    refine tn 33 hHeld ?_
    (try simp only [pA,pZ,pS])
    refine tk 34 hHeld ?_
    (try simp only [pA,pZ,pS])
    refine wpAnyH_done (by kernel_rfl) ?_ _
    refine NoPanic.normal ?_
    go_wp2
    go_ret
    exact ⟨rfl,B3 _ _ _⟩
   ·go_simp
    (go_at_call 166;refine (zal _).mono ?_;rintro e' w' ⟨rfl,rfl⟩)
    (try go_wp2_with fail)
    refine hK.out _ _ ?hS38 (fun hHeld=>?_)
    case hS38=>((try dsimp only);(go_split_ands;refine ⟨?_,?_,?_,?_,?_,?_,?_,?_⟩ <;> first | (simp [go_sem];done) | exact zaa hb' (by assumption)))
    clear hK K
    (first | simp only [pA,pZ,pS] | simp only [pN] | skip)
    refine wpAnyH_ready (rs:=[3]) (by kernel_rfl) (by simp) (AllReadyH.cons (List.getElem?_toArray.trans rfl) (fun K hK=>?_) AllReadyH.nil)
    go_simp
    refine hK.out _ _ ?hS39 (fun hHeld=>?_)
    case hS39=>((try dsimp only);(go_split_ands;refine ⟨?_,?_,?_,?_,?_,?_,?_,?_⟩ <;> first | (simp [go_sem];done) | exact zaa hb' (by assumption)))
    clear hK K
    (first | simp only [pA,pZ,pS] | simp only [pN] | skip)
    refine wpAnyH_ready (rs:=[5]) (by kernel_rfl) (by simp) (AllReadyH.cons (List.getElem?_toArray.trans rfl) (fun K hK=>?_) AllReadyH.nil)
    go_simp
    (go_at_call 145;refine (hIs.out _ _ ?_).mono ?_;(first | exact za6 _ _ _ (by simp) | exact za7 _ _ _ _ (by simp));rintro e' w' ⟨rfl,rfl⟩)
    (try go_wp2_with fail)
    refine hK.out _ _ ?hS40 (fun hHeld=>?_)
    case hS40=>((try dsimp only);(go_split_ands;refine ⟨?_,?_,?_,?_,?_,?_,?_,?_⟩ <;> first | (simp [go_sem];done) | exact zaa hb' (by assumption)))
    clear hK K
    (first | simp only [pA,pZ,pS] | simp only [pN] | skip)
    refine tk 6 hHeld ?_
    (try simp only [pA,pZ,pS])
    refine tk 7 hHeld ?_
    refine tn 8 hHeld ?_
    refine tn 9 hHeld ?_
    refine tn 10 hHeld ?_
    (try simp only [pA,pZ,pS])
    refine tk 11 hHeld ?_
    (try simp only [pA,pZ,pS])
    refine tk 12 hHeld ?_
    refine tn 13 hHeld ?_
    refine tn 14 hHeld ?_
    refine tn 15 hHeld ?_
    (try simp only [pA,pZ,pS])
    refine tn 16 hHeld ?_
    (try simp only [pA,pZ,pS])
    refine tk 17 hHeld ?_
    (try simp only [pA,pZ,pS])
    refine tk 18 hHeld ?_
    refine tn 19 hHeld ?_
    refine tn 20 hHeld ?_
    refine tn 21 hHeld ?_
    (try simp only [pA,pZ,pS])
    refine tn 22 hHeld ?_
    refine tn 23 hHeld ?_
    (try simp only [pA,pZ,pS])
    refine tk 24 hHeld ?_
    (try simp only [pA,pZ,pS])
    refine tk 25 hHeld ?_
    refine tn 26 hHeld ?_
    refine tn 27 hHeld ?_
    refine tn 28 hHeld ?_
    (try simp only [pA,pZ,pS])
    refine tk 29 hHeld ?_
    (try simp only [pA,pZ,pS])
    refine tk 30 hHeld ?_
    refine tn 31 hHeld ?_
    refine tn 32 hHeld ?_
    refine tn 33 hHeld ?_
    (try simp only [pA,pZ,pS])
    refine tk 34 hHeld ?_
    (try simp only [pA,pZ,pS])
    refine wpAnyH_done (by kernel_rfl) ?_ _
    refine NoPanic.normal ?_
    go_wp2
    go_ret
    exact ⟨rfl,B3 _ _ _⟩
  ·go_simp
   (go_at_call 166;refine (zal _).mono ?_;rintro e' w' ⟨rfl,rfl⟩)
   (try go_wp2_with fail)
   refine hK.out _ _ ?hS41 (fun hHeld=>?_)
   case hS41=>((try dsimp only);(go_split_ands;refine ⟨?_,?_,?_,?_,?_,?_,?_,?_⟩ <;> first | (simp [go_sem];done) | exact zaa hb' (by assumption)))
   clear hK K
   (first | simp only [pA,pZ,pS] | simp only [pN] | skip)
   refine wpAnyH_ready (rs:=[2]) (by kernel_rfl) (by simp) (AllReadyH.cons (List.getElem?_toArray.trans rfl) (fun K hK=>?_) AllReadyH.nil)
   go_simp
   refine hK.out _ _ ?hS42 (fun hHeld=>?_)
   case hS42=>((try dsimp only);(go_split_ands;refine ⟨?_,?_,?_,?_,?_,?_,?_,?_⟩ <;> first | (simp [go_sem];done) | exact zaa hb' (by assumption)))
   clear hK K
   (first | simp only [pA,pZ,pS] | simp only [pN] | skip)
   refine wpAnyH_ready (rs:=[3]) (by kernel_rfl) (by simp) (AllReadyH.cons (List.getElem?_toArray.trans rfl) (fun K hK=>?_) AllReadyH.nil)
   go_simp
   refine hK.out _ _ ?hS43 (fun hHeld=>?_)
   case hS43=>((try dsimp only);(go_split_ands;refine ⟨?_,?_,?_,?_,?_,?_,?_,?_⟩ <;> first | (simp [go_sem];done) | exact zaa hb' (by assumption)))
   clear hK K
   (first | simp only [pA,pZ,pS] | simp only [pN] | skip)
   refine wpAnyH_ready (rs:=[5]) (by kernel_rfl) (by simp) (AllReadyH.cons (List.getElem?_toArray.trans rfl) (fun K hK=>?_) AllReadyH.nil)
   go_simp
   (go_at_call 145;refine (hIs.out _ _ ?_).mono ?_;(first | exact za6 _ _ _ (by simp) | exact za7 _ _ _ _ (by simp));rintro e' w' ⟨rfl,rfl⟩)
   (try go_wp2_with fail)
   refine hK.out _ _ ?hS44 (fun hHeld=>?_)
   case hS44=>((try dsimp only);(go_split_ands;refine ⟨?_,?_,?_,?_,?_,?_,?_,?_⟩ <;> first | (simp [go_sem];done) | exact zaa hb' (by assumption)))
   clear hK K
   (first | simp only [pA,pZ,pS] | simp only [pN] | skip)
   refine tk 6 hHeld ?_
   (try simp only [pA,pZ,pS])
   refine tk 7 hHeld ?_
   refine tn 8 hHeld ?_
   refine tn 9 hHeld ?_
   refine tn 10 hHeld ?_
   (try simp only [pA,pZ,pS])
   refine tk 11 hHeld ?_
   (try simp only [pA,pZ,pS])
   refine tk 12 hHeld ?_
   refine tn 13 hHeld ?_
   refine tn 14 hHeld ?_
   refine tn 15 hHeld ?_
   (try simp only [pA,pZ,pS])
   refine tn 16 hHeld ?_
   (try simp only [pA,pZ,pS])
   refine tk 17 hHeld ?_
   (try simp only [pA,pZ,pS])
   refine tk 18 hHeld ?_
   refine tn 19 hHeld ?_
   refine tn 20 hHeld ?_
   refine tn 21 hHeld ?_
   (try simp only [pA,pZ,pS])
   refine tn 22 hHeld ?_
   refine tn 23 hHeld ?_
   (try simp only [pA,pZ,pS])
   refine tk 24 hHeld ?_
   (try simp only [pA,pZ,pS])
   refine tk 25 hHeld ?_
   refine tn 26 hHeld ?_
   refine tn 27 hHeld ?_
   refine tn 28 hHeld ?_
   (try simp only [pA,pZ,pS])
   refine tk 29 hHeld ?_
   (try simp only [pA,pZ,pS])
   refine tk 30 hHeld ?_
   refine tn 31 hHeld ?_
   refine tn 32 hHeld ?_
   refine tn 33 hHeld ?_
   (try simp only [pA,pZ,pS])
   refine tk 34 hHeld ?_
   (try simp only [pA,pZ,pS])
   refine wpAnyH_done (by kernel_rfl) ?_ _
   refine NoPanic.normal ?_
   go_wp2
   go_ret
   exact ⟨rfl,B3 _ _ _⟩
end Go.Proofs.YtmmdlgjmplddiaaGreat
