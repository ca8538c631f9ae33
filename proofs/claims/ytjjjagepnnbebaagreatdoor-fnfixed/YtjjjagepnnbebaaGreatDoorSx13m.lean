/-
  OUR OWN TEXT. The program's parser: a look at the next word, a word taken.
-/
import Derived.Test.YtjjjagepnnbebaaGreatDoorSx12m
set_option maxHeartbeats 1600000
set_option maxRecDepth 100000
namespace Go.Proofs.YtjjjagepnnbebaaGreatDoor
open Go.RowKit
attribute [local go_sem ↓] Go.wp_at_zero Go.wp_at_succ
structure PSt (w:World) (pb:Nat) (src:Bs) (a:Option Addr) (c:Nat) (l:List Wd) (R:List Value):Prop where
 sc:∃ k:Nat,ScAt w pb 0 56 (.slice a src.length c :: .int .i64 (k:Int) :: R).toArray src a c l
 env:zfl w pb
theorem ScAt.below{w w':World}{sb so:Nat}{t:TypeId}{cs:Array Value}{src:Bs}{a:Option Addr}{c:Nat}{l:List Wd}(h:ScAt w sb so t cs src a c l)(hb:Below w.heap.size w w'):ScAt w' sb so t cs src a c l:=
 ⟨(hb.block sb (zab h.blk)).trans h.blk,h.src0,h.cap,h.len,h.bys.below hb,h.far,h.pos⟩
theorem PSt.lt{w:World}{pb:Nat}{src:Bs}{a:Option Addr}{c:Nat}{l:List Wd}{R:List Value}(h:PSt w pb src a c l R):pb<w.heap.size:=by
 obtain ⟨k,hs⟩:=h.sc;exact zab hs.blk
theorem PSt.below{w w':World}{pb:Nat}{src:Bs}{a:Option Addr}{c:Nat}{l:List Wd}{R:List Value}(h:PSt w pb src a c l R)(hb:Below w.heap.size w w'):PSt w' pb src a c l R:=by
 obtain ⟨k,hs⟩:=h.sc;exact ⟨⟨k,hs.below hb⟩,h.env.keep (hb.mono (Nat.le_of_lt h.lt))⟩
def zqc(w:World)(r:Px Wd)(e:Ending)(w':World):Prop:=Below w.heap.size w w'/\match r with
 | .error f=>e=fltE f
 | .ok (x,_)=>e=.returned (pwV (pkW x) x.pos (ptW x) x.num)
def PPost{α:Type}(w:World)(pb:Nat)(src:Bs)(a:Option Addr)(c:Nat)(R:List Value)(Q:α->Ending->World->Prop)(r:Px α)(e:Ending)(w':World):Prop:=MkO (some pb) w w'/\match r with
 | .error f=>e=fltE f
 | .ok (x,l)=>Q x e w'/\PSt w' pb src a c l R
theorem ziC(w:World)(pb k:Nat)(src:Bs)(a:Option Addr)(c:Nat)(l:List Wd)(R:List Value)(hs:ScAt w pb 0 56 (.slice a src.length c :: .int .i64 (k:Int) :: R).toArray src a c l)(hE:zfl w pb):Calls Tryz.prog 92 #[.agg #[.slice a src.length c,.int .i64 (k:Int)]] w (zqc w (zaj l)):=by
 have E:pb<w.heap.size:=zab hs.blk;have HS:=hidX hs;have HE:=hidX hE;clear hs hE;go_enter Tryz.func92,Tryz.ntmps92;go_upto_region 1 with fail
 refine zaf ?_;intro w2 X U;have ae:Below w.heap.size w (w.alloc (.cells #[.slice a src.length c,.int .i64 (k:Int)] 51)):=(Below.refl _ _).alloc (Nat.le_refl _) _;have G:Below w.heap.size w w2:=ae.trans (X.mono (by simp));have hsz:(w.alloc (.cells #[.slice a src.length c,.int .i64 (k:Int)] 51)).heap.size=w.heap.size+1:=by simp
 have ah:w2.heap[w.heap.size]?=some (.cells #[.slice a src.length c,.int .i64 (k:Int)] 51 (0,0)):=(X.block w.heap.size (by rw[hsz];omega)).trans (heap_alloc_new _ _);rw[hsz]at U;obtain ⟨k',ar,e',ad⟩:=HS.out.pos;have ab:ScAt w2 w.heap.size 0 51 #[.slice a src.length c,.int .i64 (k:Int)] src a c l:=by
  refine ⟨ah,rfl,HS.out.cap,HS.out.len,HS.out.bys.below G,fun b o e=>Nat.lt_trans (HS.out.far b o e) E,k,?_,rfl,?_⟩
  ·simp at e';omega
  simp at e';have:k'=k:=by omega
  rw[<- this];exact ad
 have af:zfl w2 w.heap.size:=⟨HE.out.err.keep HE.out.g2 (G.mono (Nat.le_of_lt E)),HE.out.tests.keep HE.out.g1 (G.mono (Nat.le_of_lt E)),Nat.lt_trans HE.out.g1 E,Nat.lt_trans HE.out.g2 E⟩
 have O:=hidX (zhJ w2 w.heap.size 0 51 #[.slice a src.length c,.int .i64 (k:Int)] src a c l ab af);have ag:=hidX G;have ap:w.heap.size+1<w2.heap.size:=zab U;obtain ⟨Z,hZ⟩:∃ Z:Array Value,Z=#[.int .i32 0,.int .i64 0,.string ⟨#[]⟩,.int .i64 0]:=⟨_,rfl⟩
 rw[<- hZ]at U;have ao:Z.size=4:=by rw[hZ];rfl
 clear X ae G ah ab af hsz e' ad hZ ar
 cases hr:zaj l with
 | error f=>
  rw[hr]at O;go_wp2_with (first | (go_at_call 132;refine O.out.mono ?_;rintro e w3 ⟨I,rfl⟩;unfold fltE) | fail);exact ⟨rfl,ag.out.trans (I.below (Nat.le_of_lt (by omega)) (fun g e=>by cases e;exact Nat.le_refl _)),(by first | rfl | (rw[hr];rfl))⟩
 | ok p=>
  obtain ⟨x,r⟩:=p;rw[hr]at O;go_wp2_with (first | (go_at_call 132;refine O.out.mono ?_;rintro e w3 ⟨I,rfl,_⟩;have ak:=(I.block (w.heap.size+1) ap (by simp)).trans U) | (refine zac (by rfl) 131 (.tmp 2) (.tmp 3) (by rfl) (w.heap.size+1) (pwL (pkW x) x.pos (ptW x) x.num) (by rfl) (by rfl) _ 131 ak ao zaM (zbb _ _ _ _) ?_;intro w4 aj au) | fail);have al:=run_loadVar_mid (P:=Tryz.prog) w4 (w.heap.size+1) 0 131 (pwL (pkW x) x.pos (ptW x) x.num) _ (zal aj.out) Tryz.underlying131 rfl zaM;have aq:=ag.out.trans (I.below (Nat.le_of_lt (by omega)) (fun g e=>by cases e;exact Nat.le_refl _))
  go_frame
  exact bodyPost_ret (v:=.agg (pwL (pkW x) x.pos (ptW x) x.num).toArray) (by simp[results,Tryz.results92,asAddr,al]) rfl ⟨aq.trans (au.out.below (by omega)),(by first | rfl | (rw[hr];rfl))⟩
theorem ScAt.range{w:World}{pb k:Nat}{src:Bs}{a:Option Addr}{c:Nat}{l:List Wd}{R:List Value}(h:ScAt w pb 0 56 (.slice a src.length c :: .int .i64 (k:Int) :: R).toArray src a c l):w.rangeAt pb 0 [.slice a src.length c,.int .i64 (k:Int)]:=by
 intro j v hj;rcases j with _ | _ | j
 ·simp at hj;subst hj;simp[World.cell?,h.blk]
 ·simp at hj;subst hj;simp[World.cell?,h.blk]
 simp at hj
theorem wfield0(x0 x1 x2 x3:Value)(w:World):(Instr.field 131 (.agg #[x0,x1,x2,x3]) 0).run Tryz.prog w=.ok x0 w:=by kernel_rfl
theorem wfield2(x0 x1 x2 x3:Value)(w:World):(Instr.field 131 (.agg #[x0,x1,x2,x3]) 2).run Tryz.prog w=.ok x2 w:=by kernel_rfl
theorem wfield3(x0 x1 x2 x3:Value)(w:World):(Instr.field 131 (.agg #[x0,x1,x2,x3]) 3).run Tryz.prog w=.ok x3 w:=by kernel_rfl
theorem zhF:(Tryz.prog.info? 51).map (·.size)=some 2:=by kernel_rfl
theorem zdZ(w:World)(pb:Nat)(src:Bs)(a:Option Addr)(c:Nat)(l:List Wd)(R:List Value)(kd:Int)(h:PSt w pb src a c l R):Calls Tryz.prog 46 #[.pointer (some ⟨pb,0,none⟩),.int .i32 kd] w fun e w'=>Below w.heap.size w w'/\match zaj l with
  | .error f=>e=fltE f
  | .ok (x,_)=>e=.returned (.bool (decide (pkW x=kd))):=by
 have U:=hidX h.env;obtain ⟨k,hs⟩:=h.sc;have E:=hidX (ziC w pb k src a c l R hs U.out);have I:=hidX hs.range;clear h hs
 cases hr:zaj l with
 | error f=>
  rw[hr]at E;go_enter Tryz.func46,Tryz.ntmps46;go_wp2_with (first | (refine wpList_load_mid (by rfl) 51 (.tmp 7) (by rfl) pb 0 (by rfl) [.slice a src.length c,.int .i64 (k:Int)] _ I.out Tryz.underlying51 rfl zhF ?_) | (go_at_call 92;refine E.out.mono ?_;rintro e w3 ⟨G,rfl⟩;unfold fltE) | fail);exact ⟨rfl,G,rfl⟩
 | ok p=>
  obtain ⟨x,r⟩:=p;rw[hr]at E;obtain ⟨X,O⟩:∃ X,X=pkW x:=⟨_,rfl⟩
  show Calls Tryz.prog 46 #[.pointer (some ⟨pb,0,none⟩),.int .i32 kd] w fun e w'=>Below w.heap.size w w'/\e=.returned (.bool (decide (pkW x=kd)));rw[<- O];replace E:Hid (Calls Tryz.prog 92 #[.agg #[.slice a src.length c,.int .i64 (k:Int)]] w fun e w'=>Below w.heap.size w w'/\e=.returned (.agg #[.int .i32 X,.int .i64 (x.pos:Int),.string (mkS (ptW x)),.int .i64 x.num])):=by
   rw[O];exact E
  clear O;have Z:=wfield0;go_enter Tryz.func46,Tryz.ntmps46;go_wp2_with (first | (refine wpList_load_mid (by rfl) 51 (.tmp 7) (by rfl) pb 0 (by rfl) [.slice a src.length c,.int .i64 (k:Int)] _ I.out Tryz.underlying51 rfl zhF ?_) | (go_at_call 92;refine E.out.mono ?_;rintro e w3 ⟨G,rfl⟩) | fail);go_ret;exact ⟨G,zah (by rw[Bool.eq_iff_iff,beq_iff_eq,decide_eq_true_iff])⟩
end Go.Proofs.YtjjjagepnnbebaaGreatDoor
