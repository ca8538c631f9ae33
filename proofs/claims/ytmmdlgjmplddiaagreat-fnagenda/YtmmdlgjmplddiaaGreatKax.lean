/-
  OUR OWN TEXT. Sc4h, Sc4o1, Sc4o2, Sc4o3, Sc4o4, Sc4o5, Sc4o6, In0, one behind the other.
-/
import Derived.Test.YtmmdlgjmplddiaaGreatSc1m
import Derived.Test.YtmmdlgjmplddiaaGreatKar
import Derived.Deep.RegionHeld3
import Derived.Deep.DrawnRows
import Derived.BigQuiet
import Derived.Laws.BytesArg
import Derived.Test.YtmmdlgjmplddiaaGreatHwm
import Derived.Test.YtmmdlgjmplddiaaGreatKas
import Derived.Test.YtmmdlgjmplddiaaGreatKaj
namespace Go.Proofs.YtmmdlgjmplddiaaGreat
open Go.RowKit
attribute [local go_sem ↓] Go.wp_at_zero Go.wp_at_succ
theorem zbg {B n:Nat}{a w:World} (h:Below B a w):Below B a (w.drewN n):=⟨h.os,h.tape,h.output,h.size,h.block⟩
def arB:List ByteArray:=[⟨#[43]⟩,⟨#[45]⟩,⟨#[42]⟩,⟨#[47]⟩,⟨#[37]⟩]
def oneB (c:Int):ByteArray:=strOfNums [c]
theorem zoD {c:Int} (h0:0≤c) (h1:c<256):memB (oneB c) arB=isAr c:=by
 have key:∀ n:Fin 256,memB (oneB ((n.val:Nat):Int)) arB=isAr ((n.val:Nat):Int):=by decide +kernel
 obtain ⟨n,rfl⟩:=Int.eq_ofNat_of_zero_le h0
 exact key ⟨n,by omega⟩
theorem zmE (c:Int) (w:World) (b:Nat) (h:w.cell? ⟨b,0,none⟩=some (.int .u8 c)):(convert 22 9 (.slice (some ⟨b,0,none⟩) 1 1)).run Tryz.prog w=.ok (.string (oneB c)) w:=
 run_convert_bytes_arg (P:=Tryz.prog) _ 22 5 Tryz.underlying22 Tryz.underlying5 b 0 1 1 [c] rfl (fun i hi=>by
  obtain rfl:i=0:=by omega
  simpa using h) 9 Tryz.underlying9
set_option maxHeartbeats 400000 in
theorem zdr (w:World):Calls Tryz.prog 166 #[] w fun e w'=>e=.returned (.slice (some ⟨w.heap.size,0,none⟩) 5 5)∧w'=w.alloc (.cells #[.string ⟨#[43]⟩,.string ⟨#[45]⟩,.string ⟨#[42]⟩,.string ⟨#[47]⟩,.string ⟨#[37]⟩] 9):=by
 go_enter Tryz.func166,Tryz.ntmps166
 go_wp2
 go_ret
 exact ⟨rfl,rfl⟩
theorem zpv (w:World) (b:Nat) (h:w.heap[b]?=some (.cells #[.string ⟨#[43]⟩,.string ⟨#[45]⟩,.string ⟨#[42]⟩,.string ⟨#[47]⟩,.string ⟨#[37]⟩] 9 (0,0))):zcK none w (some ⟨b,0,none⟩) arB:=by
 intro i x hx
 refine ⟨b,0,[.string x],rfl,Qb.bare _ _ _,rfl,?_,rfl⟩
 intro j v hj
 have hj0:j=0:=by
  have:=(List.getElem?_eq_some_iff.1 hj).1
  simp at this
  exact this
 subst hj0
 simp at hj
 subst hj
 have hi:i<5:=(List.getElem?_eq_some_iff.1 hx).1
 simp only [World.cell?,h]
 match i,hi with
 | 0,_=>simp [arB] at hx;simp [hx]
 | 1,_=>simp [arB] at hx;simp [hx]
 | 2,_=>simp [arB] at hx;simp [hx]
 | 3,_=>simp [arB] at hx;simp [hx]
 | 4,_=>simp [arB] at hx;simp [hx]
theorem zou (c:Int) (h0:0≤c) (h1:c<256) (b:Nat) (w:World) (h:w.heap[b]?=some (.cells #[.string ⟨#[43]⟩,.string ⟨#[45]⟩,.string ⟨#[42]⟩,.string ⟨#[47]⟩,.string ⟨#[37]⟩] 9 (0,0))) :
  Calls Tryz.prog 145 #[.string (oneB c),.slice (some ⟨b,0,none⟩) 5 5] w fun e w'=>e=.returned (.bool (isAr c))∧w'=w:=by
 rw [← zoD h0 h1]
 exact zg4 (oneB c) _ 5 arB w (zpv w b h) (by decide)
theorem zlH (w:World) (o:Obj) (b:Nat) (h:b=w.heap.size):(w.alloc o).drew.heap[b]?=some o:=by
 subst h
 exact heap_alloc_new _ _
theorem zlw (w:World) (o o':Obj) (b:Nat) (h:b=w.heap.size):((w.alloc o).alloc o').drew.heap[b]?=some o:=by
 subst h
 exact (Below.heap_alloc _ _ _ (by simp)).trans (heap_alloc_new _ _)
end Go.Proofs.YtmmdlgjmplddiaaGreat
namespace Go.Proofs.YtmmdlgjmplddiaaGreat
open Go.RowKit
attribute [local go_sem ↓] Go.wp_at_zero Go.wp_at_succ
end Go.Proofs.YtmmdlgjmplddiaaGreat
namespace Go.Proofs.YtmmdlgjmplddiaaGreat
open Go.RowKit
attribute [local go_sem ↓] Go.wp_at_zero Go.wp_at_succ
end Go.Proofs.YtmmdlgjmplddiaaGreat
namespace Go.Proofs.YtmmdlgjmplddiaaGreat
open Go.RowKit
attribute [local go_sem ↓] Go.wp_at_zero Go.wp_at_succ
end Go.Proofs.YtmmdlgjmplddiaaGreat
namespace Go.Proofs.YtmmdlgjmplddiaaGreat
open Go.RowKit
attribute [local go_sem ↓] Go.wp_at_zero Go.wp_at_succ
end Go.Proofs.YtmmdlgjmplddiaaGreat
namespace Go.Proofs.YtmmdlgjmplddiaaGreat
open Go.RowKit
attribute [local go_sem ↓] Go.wp_at_zero Go.wp_at_succ
end Go.Proofs.YtmmdlgjmplddiaaGreat
namespace Go.Proofs.YtmmdlgjmplddiaaGreat
open Go.RowKit
attribute [local go_sem ↓] Go.wp_at_zero Go.wp_at_succ
theorem zhd {p:Prop} (h:p):Hid p:=h
set_option maxHeartbeats 3200000 in
theorem zh2 (a:Option Addr) (c:Nat) (es:List Ex) (S:List Sp) (e:Ex) (w:World) {q:Option Nat} (hv:zbw q w a es) (hl:es.length≤60) (he:es[S.length]?=some e) (ho0:0≤e.op) (ho1:e.op<256) (k2:e.kind=2) (har:isAr e.op=true) (hva:e.var.toList.isEmpty=true) (hz:za1 e.val=true) (hS:Spans es S) (bn:Nat) (hbn:bn+1=S.length) (heb:e.b=(bn:Int)) (sb:Sp) (hsb:S[bn]?=some sb) (ha0:¬ e.a<0) (hd:(e.a==(sb.1:Int) - 1)=true) (ea:Nat) (sa:Sp) (hea:e.a=(ea:Int)) (hsa:S[ea]?=some sa) :
  Calls Tryz.prog 143 #[.slice a es.length c,.int .i64 (S.length:Int)] w fun e' w'=>e'=.returned (.bool (decide (1+max sa.2 sb.2≤20)))∧Below w.heap.size w w':=by
 have hkl:S.length<es.length:=(List.getElem?_eq_some_iff.1 he).1
 have B1:∀ o,Below w.heap.size w (w.alloc o):=fun o=>(Below.refl _ _).alloc (Nat.le_refl _) _
 have B3:∀ o o1 o2,Below w.heap.size w (((w.alloc o).drew.alloc o1).alloc o2):=fun o o1 o2=>((B1 o).drew.alloc (by simp) _).alloc (by simp;omega) _
 have hv0:=hv
 obtain ⟨b,o,rfl,hq,c0,c1,c2,c3,c4,c5,c6,c7⟩:=hv.get he
 have hcv:=zmE e.op
 have hIs:=zhd (zou e.op ho0 ho1)
 rw [har] at hIs
 have hZ:=zhd (fun w=>zc1 e.val w)
 rw [hz] at hZ
 have hbi:(e.b != (S.length:Int) - 1)=false:=by simp [heb];omega
 have hw:IntKind.i64.wrap ((S.length:Int) - 1)=(S.length:Int) - 1:=by rw [IntKind.wrap_i64];omega
 have hb0d:decide (e.b<0)=false:=decide_eq_false (by omega)
 have ha0d:decide (e.a<0)=false:=decide_eq_false ha0
 have hfl:=hS.first_le bn sb hsb
 have hw2:IntKind.i64.wrap ((sb.1:Int) - 1)=(sb.1:Int) - 1:=by rw [IntKind.wrap_i64];omega
 have hF0:∀ w',zbw q w' (some ⟨b,o,none⟩) es→Calls Tryz.prog 146 #[.slice (some ⟨b,o,none⟩) es.length c,.int .i64 e.b] w' fun e w''=>e=.returned (.int .i64 (sb.1:Int))∧w''=w':=fun w' h=>by
  rw [heb]
  exact zca (some ⟨b,o,none⟩) c es S bn sb w' h hS hsb
 have hF:=zhd hF0
 clear hF0
 have hDp:=zhd (fun w' (h:zbw q w' (some ⟨b,o,none⟩) es)=>zgK (some ⟨b,o,none⟩) c es S.length ea bn sa.2 sb.2 e w' h he k2 hea heb (hS.depth_le ea sa hsa) (hS.depth_le bn sb hsb) (zfy (some ⟨b,o,none⟩) c es S w' h hS ea sa hsa) (zfy (some ⟨b,o,none⟩) c es S w' h hS bn sb hsb))
 clear hea hsa
 clear heb hsb hfl hbn hS
 rw [k2] at c0
 clear hq hv
 have h1:(e.op==0)=false:=by
  cases h:(e.op==0)
  ·rfl
  ·have h0:e.op=0:=by simpa using h
   rw [h0] at har
   exact absurd har (by decide)
 go_enter Tryz.func143,Tryz.ntmps143
 go_wp2
 clear c0 c1 c2 c3 c4 c5 c6 c7 he
 (try clear h3);(try clear h2);clear h1
 refine wp_region_noPanic ?_
 refine wp_region_held_drew (S:=(fun w'=>w'.cell? ⟨w.heap.size,0,none⟩=some (.int .i64 2)∧w'.cell? ⟨w.heap.size,1,none⟩=some (.int .u8 e.op)∧w'.cell? ⟨w.heap.size,2,none⟩=some (.string e.var)∧w'.cell? ⟨w.heap.size,3,none⟩=some (.int .i64 e.val.kind)∧w'.cell? ⟨w.heap.size,4,none⟩=some (.int .i64 e.val.num)∧w'.cell? ⟨w.heap.size,5,none⟩=some (.string e.val.sym)∧w'.cell? ⟨w.heap.size,6,none⟩=some (.int .i64 e.a)∧w'.cell? ⟨w.heap.size,7,none⟩=some (.int .i64 e.b))) (by kernel_rfl) ?_ (fun hHeld=>?_)
 ·(try dsimp only)
  (go_split_ands;refine ⟨?_,?_,?_,?_,?_,?_,?_,?_⟩ <;> first | (simp [go_sem];done) | exact zaa hb' (by assumption))
 refine tk 0 hHeld ?_
 (try simp only [pA,pZ,pS])
 refine tk 1 hHeld ?_
 (try simp only [pA,pZ,pS])
 refine wpAnyH_ready (rs:=[2,4]) (by kernel_rfl) (by simp) (AllReadyH.cons (List.getElem?_toArray.trans rfl) (fun K hK=>?_) (AllReadyH.cons (List.getElem?_toArray.trans rfl) (fun K hK=>?_) AllReadyH.nil))
 ·go_simp
  refine hK.out _ _ ?hS126 (fun hHeld=>?_)
  case hS126=>((try dsimp only);(go_split_ands;refine ⟨?_,?_,?_,?_,?_,?_,?_,?_⟩ <;> first | (simp [go_sem];done) | exact zaa hb' (by assumption)))
  clear hK K
  (first | simp only [pA,pZ,pS] | simp only [pN] | skip)
  refine wpAnyH_ready (rs:=[3,4]) (by kernel_rfl) (by simp) (AllReadyH.cons (List.getElem?_toArray.trans rfl) (fun K hK=>?_) (AllReadyH.cons (List.getElem?_toArray.trans rfl) (fun K hK=>?_) AllReadyH.nil))
  ·go_simp
   refine hK.out _ _ ?hS127 (fun hHeld=>?_)
   case hS127=>((try dsimp only);(go_split_ands;refine ⟨?_,?_,?_,?_,?_,?_,?_,?_⟩ <;> first | (simp [go_sem];done) | exact zaa hb' (by assumption)))
   clear hK K
   (first | simp only [pA,pZ,pS] | simp only [pN] | skip)
   refine wpAnyH_ready (rs:=[4]) (by kernel_rfl) (by simp) (AllReadyH.cons (List.getElem?_toArray.trans rfl) (fun K hK=>?_) AllReadyH.nil)
   go_simp
   (go_at_call 166;refine (zdr _).mono ?_;rintro e' w' ⟨rfl,rfl⟩)
   (try go_wp2_with fail)
   refine hK.out _ _ ?hS128 (fun hHeld=>?_)
   case hS128=>((try dsimp only);(go_split_ands;refine ⟨?_,?_,?_,?_,?_,?_,?_,?_⟩ <;> first | (simp [go_sem];done) | exact zaa hb' (by assumption)))
   clear hK K
   (first | simp only [pA,pZ,pS] | simp only [pN] | skip)
   refine wpAnyH_ready (rs:=[5]) (by kernel_rfl) (by simp) (AllReadyH.cons (List.getElem?_toArray.trans rfl) (fun K hK=>?_) AllReadyH.nil)
   go_simp
   (go_at_call 145;refine (hIs.out _ _ ?_).mono ?_;(first | exact zlH _ _ _ (by simp) | exact zlw _ _ _ _ (by simp));rintro e' w' ⟨rfl,rfl⟩)
   (try go_wp2_with fail)
   refine hK.out _ _ ?hS129 (fun hHeld=>?_)
   case hS129=>((try dsimp only);(go_split_ands;refine ⟨?_,?_,?_,?_,?_,?_,?_,?_⟩ <;> first | (simp [go_sem];done) | exact zaa hb' (by assumption)))
   clear hK K
   (first | simp only [pA,pZ,pS] | simp only [pN] | skip)
   refine tk 6 hHeld ?_
   (try simp only [pA,pZ,pS])
   refine tk 7 hHeld ?_
   (try simp only [pA,pZ,pS])
   refine tk 8 hHeld ?_
   (try simp only [pA,pZ,pS])
   refine tk 9 hHeld ?_
   (try simp only [pA,pZ,pS])
   refine tk 10 hHeld ?_
   (try simp only [pA,pZ,pS])
   refine tk 11 hHeld ?_
   (try simp only [pA,pZ,pS])
   refine tk 12 hHeld ?_
   (try simp only [pA,pZ,pS])
   refine tk 13 hHeld ?_
   (try simp only [pA,pZ,pS])
   refine tk 14 hHeld ?_
   (try simp only [pA,pZ,pS])
   refine wpAnyH_ready (rs:=[15]) (by kernel_rfl) (by simp) (AllReadyH.cons (List.getElem?_toArray.trans rfl) (fun K hK=>?_) AllReadyH.nil)
   go_simp
   (go_at_call 109;refine (hZ.out _).mono ?_;rintro e' w' ⟨rfl,hb'⟩)
   (try go_wp2_with fail)
   refine hK.out _ _ ?hS130 (fun hHeld=>?_)
   case hS130=>((try dsimp only);(go_split_ands;refine ⟨?_,?_,?_,?_,?_,?_,?_,?_⟩ <;> first | (simp [go_sem];done) | exact zaa hb' (by assumption)))
   clear hK K
   (first | simp only [pA,pZ,pS] | simp only [pN] | skip)
   refine tk 16 hHeld ?_
   (try simp only [pA,pZ,pS])
   refine tk 17 hHeld ?_
   (try simp only [pA,pZ,pS])
   refine tk 18 hHeld ?_
   (try simp only [pA,pZ,pS])
   refine tk 19 hHeld ?_
   (try simp only [pA,pZ,pS])
   refine tk 20 hHeld ?_
   (try simp only [pA,pZ,pS])
   refine tk 21 hHeld ?_
   (try simp only [pA,pZ,pS])
   refine tk 22 hHeld ?_
   (try simp only [pA,pZ,pS])
   refine tk 23 hHeld ?_
   (try simp only [pA,pZ,pS])
   refine tk 24 hHeld ?_
   (try simp only [pA,pZ,pS])
   refine tk 25 hHeld ?_
   (try simp only [pA,pZ,pS])
   refine tk 26 hHeld ?_
   (try simp only [pA,pZ,pS])
   refine tk 27 hHeld ?_
   (try simp only [pA,pZ,pS])
   refine tk 28 hHeld ?_
   (try simp only [pA,pZ,pS])
   refine tk 29 hHeld ?_
   (try simp only [pA,pZ,pS])
   refine tk 30 hHeld ?_
   (try simp only [pA,pZ,pS])
   refine tk 31 hHeld ?_
   (try simp only [pA,pZ,pS])
   refine tk 32 hHeld ?_
   (try simp only [pA,pZ,pS])
   refine tk 33 hHeld ?_
   (try simp only [pA,pZ,pS])
   refine tk 34 hHeld ?_
   (try simp only [pA,pZ,pS])
   refine wpAnyH_done (by kernel_rfl) ?_ _
   refine NoPanic.normal ?_
   obtain ⟨y0,y1,y2,y3,y4,y5,y6,y7⟩:=hHeld
   have hBz:Below w.heap.size w w':=(B3 _ _ _).trans (hb'.mono (by simp;omega))
   have hE:=zhd (hv0.below hBz)
   clear hb' hv0
   go_wp2
   go_quiet (first | (go_at_call 146;refine Calls.quiet_of_same (hF.out _ (hE.out.below ?_));exact zbg (Below.refl _ _)) | (go_at_call 167;refine Calls.quiet_of_same (hDp.out _ (hE.out.below ?_));exact zbg (Below.refl _ _)))
   go_wp2
   go_ret
   exact ⟨zac (by simp;omega),zbg hBz⟩
  ·go_simp
   (go_at_call 166;refine (zdr _).mono ?_;rintro e' w' ⟨rfl,rfl⟩)
   (try go_wp2_with fail)
   refine hK.out _ _ ?hS131 (fun hHeld=>?_)
   case hS131=>((try dsimp only);(go_split_ands;refine ⟨?_,?_,?_,?_,?_,?_,?_,?_⟩ <;> first | (simp [go_sem];done) | exact zaa hb' (by assumption)))
   clear hK K
   (first | simp only [pA,pZ,pS] | simp only [pN] | skip)
   refine wpAnyH_ready (rs:=[3]) (by kernel_rfl) (by simp) (AllReadyH.cons (List.getElem?_toArray.trans rfl) (fun K hK=>?_) AllReadyH.nil)
   go_simp
   refine hK.out _ _ ?hS132 (fun hHeld=>?_)
   case hS132=>((try dsimp only);(go_split_ands;refine ⟨?_,?_,?_,?_,?_,?_,?_,?_⟩ <;> first | (simp [go_sem];done) | exact zaa hb' (by assumption)))
   clear hK K
   (first | simp only [pA,pZ,pS] | simp only [pN] | skip)
   refine wpAnyH_ready (rs:=[5]) (by kernel_rfl) (by simp) (AllReadyH.cons (List.getElem?_toArray.trans rfl) (fun K hK=>?_) AllReadyH.nil)
   go_simp
   (go_at_call 145;refine (hIs.out _ _ ?_).mono ?_;(first | exact zlH _ _ _ (by simp) | exact zlw _ _ _ _ (by simp));rintro e' w' ⟨rfl,rfl⟩)
   (try go_wp2_with fail)
   refine hK.out _ _ ?hS133 (fun hHeld=>?_)
   case hS133=>((try dsimp only);(go_split_ands;refine ⟨?_,?_,?_,?_,?_,?_,?_,?_⟩ <;> first | (simp [go_sem];done) | exact zaa hb' (by assumption)))
   clear hK K
   (first | simp only [pA,pZ,pS] | simp only [pN] | skip)
   refine tk 6 hHeld ?_
   (try simp only [pA,pZ,pS])
   refine tk 7 hHeld ?_
   (try simp only [pA,pZ,pS])
   refine tk 8 hHeld ?_
   (try simp only [pA,pZ,pS])
   refine tk 9 hHeld ?_
   (try simp only [pA,pZ,pS])
   refine tk 10 hHeld ?_
   (try simp only [pA,pZ,pS])
   refine tk 11 hHeld ?_
   (try simp only [pA,pZ,pS])
   refine tk 12 hHeld ?_
   (try simp only [pA,pZ,pS])
   refine tk 13 hHeld ?_
   (try simp only [pA,pZ,pS])
   refine tk 14 hHeld ?_
   (try simp only [pA,pZ,pS])
   refine wpAnyH_ready (rs:=[15]) (by kernel_rfl) (by simp) (AllReadyH.cons (List.getElem?_toArray.trans rfl) (fun K hK=>?_) AllReadyH.nil)
   go_simp
   (go_at_call 109;refine (hZ.out _).mono ?_;rintro e' w' ⟨rfl,hb'⟩)
   (try go_wp2_with fail)
   refine hK.out _ _ ?hS134 (fun hHeld=>?_)
   case hS134=>((try dsimp only);(go_split_ands;refine ⟨?_,?_,?_,?_,?_,?_,?_,?_⟩ <;> first | (simp [go_sem];done) | exact zaa hb' (by assumption)))
   clear hK K
   (first | simp only [pA,pZ,pS] | simp only [pN] | skip)
   refine tk 16 hHeld ?_
   (try simp only [pA,pZ,pS])
   refine tk 17 hHeld ?_
   (try simp only [pA,pZ,pS])
   refine tk 18 hHeld ?_
   (try simp only [pA,pZ,pS])
   refine tk 19 hHeld ?_
   (try simp only [pA,pZ,pS])
   refine tk 20 hHeld ?_
   (try simp only [pA,pZ,pS])
   refine tk 21 hHeld ?_
   (try simp only [pA,pZ,pS])
   refine tk 22 hHeld ?_
   (try simp only [pA,pZ,pS])
   refine tk 23 hHeld ?_
   (try simp only [pA,pZ,pS])
   refine tk 24 hHeld ?_
   (try simp only [pA,pZ,pS])
   refine tk 25 hHeld ?_
   (try simp only [pA,pZ,pS])
   refine tk 26 hHeld ?_
   (try simp only [pA,pZ,pS])
   refine tk 27 hHeld ?_
   (try simp only [pA,pZ,pS])
   refine tk 28 hHeld ?_
   (try simp only [pA,pZ,pS])
   refine tk 29 hHeld ?_
   (try simp only [pA,pZ,pS])
   refine tk 30 hHeld ?_
   (try simp only [pA,pZ,pS])
   refine tk 31 hHeld ?_
   (try simp only [pA,pZ,pS])
   refine tk 32 hHeld ?_
   (try simp only [pA,pZ,pS])
   refine tk 33 hHeld ?_
   (try simp only [pA,pZ,pS])
   refine tk 34 hHeld ?_
   (try simp only [pA,pZ,pS])
   refine wpAnyH_done (by kernel_rfl) ?_ _
   refine NoPanic.normal ?_
   obtain ⟨y0,y1,y2,y3,y4,y5,y6,y7⟩:=hHeld
   have hBz:Below w.heap.size w w':=(B3 _ _ _).trans (hb'.mono (by simp;omega))
   have hE:=zhd (hv0.below hBz)
   clear hb' hv0
   go_wp2
   go_quiet (first | (go_at_call 146;refine Calls.quiet_of_same (hF.out _ (hE.out.below ?_));exact zbg (Below.refl _ _)) | (go_at_call 167;refine Calls.quiet_of_same (hDp.out _ (hE.out.below ?_));exact zbg (Below.refl _ _)))
   go_wp2
   go_ret
   exact ⟨zac (by simp;omega),zbg hBz⟩
 ·go_simp
  (go_at_call 166;refine (zdr _).mono ?_;rintro e' w' ⟨rfl,rfl⟩)
  (try go_wp2_with fail)
  refine hK.out _ _ ?hS135 (fun hHeld=>?_)
  case hS135=>((try dsimp only);(go_split_ands;refine ⟨?_,?_,?_,?_,?_,?_,?_,?_⟩ <;> first | (simp [go_sem];done) | exact zaa hb' (by assumption)))
  clear hK K
  (first | simp only [pA,pZ,pS] | simp only [pN] | skip)
  refine wpAnyH_ready (rs:=[2]) (by kernel_rfl) (by simp) (AllReadyH.cons (List.getElem?_toArray.trans rfl) (fun K hK=>?_) AllReadyH.nil)
  go_simp
  refine hK.out _ _ ?hS136 (fun hHeld=>?_)
  case hS136=>((try dsimp only);(go_split_ands;refine ⟨?_,?_,?_,?_,?_,?_,?_,?_⟩ <;> first | (simp [go_sem];done) | exact zaa hb' (by assumption)))
  clear hK K
  (first | simp only [pA,pZ,pS] | simp only [pN] | skip)
  refine wpAnyH_ready (rs:=[3]) (by kernel_rfl) (by simp) (AllReadyH.cons (List.getElem?_toArray.trans rfl) (fun K hK=>?_) AllReadyH.nil)
  go_simp
  refine hK.out _ _ ?hS137 (fun hHeld=>?_)
  case hS137=>((try dsimp only);(go_split_ands;refine ⟨?_,?_,?_,?_,?_,?_,?_,?_⟩ <;> first | (simp [go_sem];done) | exact zaa hb' (by assumption)))
  clear hK K
  (first | simp only [pA,pZ,pS] | simp only [pN] | skip)
  refine wpAnyH_ready (rs:=[5]) (by kernel_rfl) (by simp) (AllReadyH.cons (List.getElem?_toArray.trans rfl) (fun K hK=>?_) AllReadyH.nil)
  go_simp
  (go_at_call 145;refine (hIs.out _ _ ?_).mono ?_;(first | exact zlH _ _ _ (by simp) | exact zlw _ _ _ _ (by simp));rintro e' w' ⟨rfl,rfl⟩)
  (try go_wp2_with fail)
  refine hK.out _ _ ?hS138 (fun hHeld=>?_)
  case hS138=>((try dsimp only);(go_split_ands;refine ⟨?_,?_,?_,?_,?_,?_,?_,?_⟩ <;> first | (simp [go_sem];done) | exact zaa hb' (by assumption)))
  clear hK K
  (first | simp only [pA,pZ,pS] | simp only [pN] | skip)
  refine tk 6 hHeld ?_
  (try simp only [pA,pZ,pS])
  refine tk 7 hHeld ?_
  (try simp only [pA,pZ,pS])
  refine tk 8 hHeld ?_
  (try simp only [pA,pZ,pS])
  refine tk 9 hHeld ?_
  (try simp only [pA,pZ,pS])
  refine tk 10 hHeld ?_
  (try simp only [pA,pZ,pS])
  refine tk 11 hHeld ?_
  (try simp only [pA,pZ,pS])
  refine tk 12 hHeld ?_
  (try simp only [pA,pZ,pS])
  refine tk 13 hHeld ?_
  (try simp only [pA,pZ,pS])
  refine tk 14 hHeld ?_
  (try simp only [pA,pZ,pS])
  refine wpAnyH_ready (rs:=[15]) (by kernel_rfl) (by simp) (AllReadyH.cons (List.getElem?_toArray.trans rfl) (fun K hK=>?_) AllReadyH.nil)
  go_simp
  (go_at_call 109;refine (hZ.out _).mono ?_;rintro e' w' ⟨rfl,hb'⟩)
  (try go_wp2_with fail)
  refine hK.out _ _ ?hS139 (fun hHeld=>?_)
  case hS139=>((try dsimp only);(go_split_ands;refine ⟨?_,?_,?_,?_,?_,?_,?_,?_⟩ <;> first | (simp [go_sem];done) | exact zaa hb' (by assumption)))
  clear hK K
  (first | simp only [pA,pZ,pS] | simp only [pN] | skip)
  refine tk 16 hHeld ?_
  (try simp only [pA,pZ,pS])
  refine tk 17 hHeld ?_
  (try simp only [pA,pZ,pS])
  refine tk 18 hHeld ?_
  (try simp only [pA,pZ,pS])
  refine tk 19 hHeld ?_
  (try simp only [pA,pZ,pS])
  refine tk 20 hHeld ?_
  (try simp only [pA,pZ,pS])
  refine tk 21 hHeld ?_
  (try simp only [pA,pZ,pS])
  refine tk 22 hHeld ?_
  (try simp only [pA,pZ,pS])
  refine tk 23 hHeld ?_
  (try simp only [pA,pZ,pS])
  refine tk 24 hHeld ?_
  (try simp only [pA,pZ,pS])
  refine tk 25 hHeld ?_
  (try simp only [pA,pZ,pS])
  refine tk 26 hHeld ?_
  (try simp only [pA,pZ,pS])
  refine tk 27 hHeld ?_
  (try simp only [pA,pZ,pS])
  refine tk 28 hHeld ?_
  (try simp only [pA,pZ,pS])
  refine tk 29 hHeld ?_
  (try simp only [pA,pZ,pS])
  refine tk 30 hHeld ?_
  (try simp only [pA,pZ,pS])
  refine tk 31 hHeld ?_
  (try simp only [pA,pZ,pS])
  refine tk 32 hHeld ?_
  (try simp only [pA,pZ,pS])
  refine tk 33 hHeld ?_
  (try simp only [pA,pZ,pS])
  refine tk 34 hHeld ?_
  (try simp only [pA,pZ,pS])
  refine wpAnyH_done (by kernel_rfl) ?_ _
  refine NoPanic.normal ?_
  obtain ⟨y0,y1,y2,y3,y4,y5,y6,y7⟩:=hHeld
  have hBz:Below w.heap.size w w':=(B3 _ _ _).trans (hb'.mono (by simp;omega))
  have hE:=zhd (hv0.below hBz)
  clear hb' hv0
  go_wp2
  go_quiet (first | (go_at_call 146;refine Calls.quiet_of_same (hF.out _ (hE.out.below ?_));exact zbg (Below.refl _ _)) | (go_at_call 167;refine Calls.quiet_of_same (hDp.out _ (hE.out.below ?_));exact zbg (Below.refl _ _)))
  go_wp2
  go_ret
  exact ⟨zac (by simp;omega),zbg hBz⟩
end Go.Proofs.YtmmdlgjmplddiaaGreat
namespace Go.Proofs.YtmmdlgjmplddiaaGreat
open Go.RowKit
structure It where
 rule:Int
 tags:List Int
abbrev ItX:=It × Value
def zbr (x:ItX):List Value:=[.int .i64 x.1.rule,x.2]
structure ItP (w:World) (base:Nat) (x:ItX):Prop where
 ts:∃ a c,x.2=.slice a x.1.tags.length c
 ot:w.ownsRow base 3 1 x.2 x.1.tags.length (icells x.1.tags)
structure Iw (w:World) (b1 base:Nat) (a:Option Addr) (c:Nat) (L:List ItX):Prop where
 row:w.ownsRow b1 46 2 (.slice a L.length c) L.length (L.flatMap zbr)
 all:∀ x∈L,ItP w base x
theorem Iw.nil (w:World) (b1 base:Nat):Iw w b1 base none 0 []:=⟨World.ownsRow_nil _ _ _ _,fun x hx=>by simp at hx⟩
theorem ItP.bel {w w':World}{base:Nat}{x:ItX} (h:ItP w base x) (hb:Below w.heap.size w w'):ItP w' base x:=⟨h.ts,zag h.ot hb⟩
theorem ItP.lower {w:World}{base base':Nat}{x:ItX} (h:ItP w base x) (hb:base'≤base):ItP w base' x:=⟨h.ts,zan h.ot hb⟩
theorem Iw.bel {w w':World}{b1 base:Nat}{a:Option Addr}{c:Nat}{L:List ItX} (h:Iw w b1 base a c L) (hb:Below w.heap.size w w'):Iw w' b1 base a c L:=⟨zag h.row hb,fun x hx=>(h.all x hx).bel hb⟩
theorem Iw.lower {w:World}{b1 base b1' base':Nat}{a:Option Addr}{c:Nat}{L:List ItX} (h:Iw w b1 base a c L) (h1:b1'≤b1) (h2:base'≤base):Iw w b1' base' a c L:=⟨zan h.row h1,fun x hx=>(h.all x hx).lower h2⟩
theorem ItP.grown {w w':World}{base:Nat}{t:TypeId}{x:ItX}{row:Option Nat} (h:ItP w base x) (hg:w.grownBy w' row) (ht:∀ k,row=some k→∃ c,w.heap[k]?=some (.cells c t (0,0))) (h1:t≠3):ItP w' base x:=⟨h.ts,zbh h.ot hg ht h1⟩
theorem Iw.snoc {w w':World}{b1 base:Nat}{a a':Option Addr}{c c':Nat}{L:List ItX}{x:ItX} (h:Iw w b1 base a c L) (hx:ItP w base x) (ho:w'.ownsRow b1 46 2 (.slice a' (L.length+1) c') (L.length+1) (L.flatMap zbr ++ zbr x)) (hg:w.grownBy w' (Value.slice a L.length c).ownBlock):Iw w' b1 base a' c' (L ++ [x]):=by
 refine ⟨by simpa using ho,fun y hy=>?_⟩
 have hy':ItP w base y:=by
  rcases List.mem_append.1 hy with hy | hy
  ·exact h.all y hy
  ·simp at hy
   subst hy
   exact hx
 exact hy'.grown hg (fun k hk=>zai h.row hk) (by decide)
theorem Iw.get {w:World}{b1 base:Nat}{a:Option Addr}{c:Nat}{L:List ItX} (h:Iw w b1 base a c L) {i:Nat}{x:ItX} (hi:L[i]?=some x) :
  ∃ k,a=some ⟨k,0,none⟩∧b1≤k∧k<w.heap.size∧w.cell? ⟨k,i * 2,none⟩=some (.int .i64 x.1.rule)∧w.cell? ⟨k,i * 2+1,none⟩=some x.2∧w.frozen? ⟨k,i * 2,none⟩=false:=by
 have key:=fun j u (hj:(zbr x)[j]?=some u)=>zam h.row (za5 (cells:=zbr) (m:=2) (fun _=>rfl) L i x j u hi hj)
 obtain ⟨k,rfl,hk,h0,f0⟩:=key 0 _ rfl
 obtain ⟨k1,e1,_,h1,_⟩:=key 1 _ rfl
 cases e1
 exact ⟨k,rfl,hk,World.block_lt_of_cell? w ⟨k,_,none⟩ h0,h0,h1,f0⟩
theorem zjj {w:World}{base:Nat}{x:ItX} (h:ItP w base x):∀ u∈zbr x,u.oneCell'=true:=by
 obtain ⟨⟨a,c,h1⟩,_⟩:=h
 intro u hu
 simp [zbr] at hu
 rcases hu with rfl | rfl
 ·rfl
 ·rw [h1];rfl
theorem zhb:(Tryz.prog.info? 46).map (fun i=>(i.zero,i.size,i.bytes))=some (some (.agg #[.int .i64 0,.slice none 0 0]),2,32):=by kernel_rfl
def zjb (w:World) (a:Option Addr) (L:List It):Prop:=
 ∀ (i:Nat) (x:It),L[i]?=some x→∃ b o a' c',a=some ⟨b,o,none⟩∧w.cell? ⟨b,o+i * 2,none⟩=some (.int .i64 x.rule)∧w.cell? ⟨b,o+i * 2+1,none⟩=some (.slice a' x.tags.length c')∧zas none w a' x.tags
theorem zjb.below {w w':World}{a:Option Addr}{L:List It} (h:zjb w a L) (hb:Below w.heap.size w w'):zjb w' a L:=by
 intro i x hx
 obtain ⟨b,o,a',c',e,h0,h1,hi⟩:=h i x hx
 exact ⟨b,o,a',c',e,zaa hb h0,zaa hb h1,hi.below hb⟩
theorem Iw.at {w:World}{b1 base:Nat}{a:Option Addr}{c:Nat}{M:List ItX} (h:Iw w b1 base a c M):zjb w a (M.map Prod.fst):=by
 intro i x hx
 rw [List.getElem?_map] at hx
 obtain ⟨y,hy,rfl⟩:=Option.map_eq_some_iff.1 hx
 obtain ⟨k,rfl,_,_,h0,h1,_⟩:=h.get hy
 obtain ⟨⟨a',c',e⟩,ho⟩:=h.all y (List.mem_of_getElem? hy)
 rw [e] at h1 ho
 exact ⟨k,0,a',c',rfl,by simpa using h0,by simpa using h1,zas.owns ho⟩
def InIt (v:Value) (M:List ItX) (g:Nat):Prop:=v.ownBlock=some g∨∃ x∈M,x.2.ownBlock=some g
theorem Iw.range {w:World}{base:Nat}{a:Option Addr}{c:Nat}{M:List ItX} (h:Iw w base base a c M) {g:Nat} (hg:InIt (.slice a M.length c) M g):base≤g∧g<w.heap.size:=by
 rcases hg with hg | ⟨x,hx,hg⟩
 ·exact h.row.lt g hg
 ·exact (h.all x hx).ot.lt g hg
theorem Iw.kept {w w':World}{b1 base:Nat}{a:Option Addr}{c:Nat}{M:List ItX} (h:Iw w b1 base a c M) (hb:∀ g,InIt (.slice a M.length c) M g→w'.heap[g]?=w.heap[g]?):Iw w' b1 base a c M:=
 ⟨zae h.row (fun g hg=>hb g (.inl hg)),fun x hx=>⟨(h.all x hx).ts,zae (h.all x hx).ot (fun g hg=>hb g (.inr ⟨x,hx,hg⟩))⟩⟩
end Go.Proofs.YtmmdlgjmplddiaaGreat
