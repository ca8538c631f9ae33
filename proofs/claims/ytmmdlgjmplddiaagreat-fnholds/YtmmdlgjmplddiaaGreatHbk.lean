/-
  OUR OWN TEXT. Ic3b, Ic7, Ic11, Sc6a, one behind the other.
-/
import Derived.Test.YtmmdlgjmplddiaaGreatHbj
import Derived.Test.YtmmdlgjmplddiaaGreatHas
import Derived.Test.YtmmdlgjmplddiaaGreatHbi
import Derived.Test.YtmmdlgjmplddiaaGreatHay
namespace Go.Proofs.YtmmdlgjmplddiaaGreat
open Go.RowKit
attribute [local go_sem ↓] Go.wp_at_zero Go.wp_at_succ
set_option maxHeartbeats 1600000 in
theorem zeu (y:Ac) (a_args:Option Addr) (c_args:Nat) (a_s:Option Addr) (c_s:Nat) (S:List Sp) (nx:Nat) {q q':Option Nat} (w:World) (h_args:zaU q w a_args y.args) (hv:zdo q' w a_s S) (hl:S.length≤60) (hcl:y.cls.size≤maxLen) (hal:y.args.length≤1048576) (hnx:nx≤60) :
  Calls Tryz.prog 131 #[.agg #[.int .i64 y.kind,.int .i64 y.k,.string y.cls,.slice a_args y.args.length c_args],.slice a_s S.length c_s,.int .i64 (nx:Int)] w fun e w'=>
   (∃ v:Int,e=.returned (.tuple #[.int .i64 v,.bool (gAc S y nx).isSome])∧∀ n,gAc S y nx=some n→v=(n:Int)∧n≤60)∧Below w.heap.size w w':=by
 have B0:∀ o,Below w.heap.size w (w.alloc o):=fun o=>(Below.refl _ _).alloc (Nat.le_refl _) _
 obtain ⟨G⟩:Nonempty (Hid (gAc S y nx=if zaz y && decide (y.args.length≤6) then zaP S y.args nx else none)):=⟨rfl⟩
 cases hfo:zaz y
 ·have HN:Hid (gAc S y nx=none):=show gAc S y nx=none from by rw [G.out,hfo];rfl
  go_enter Tryz.func131,Tryz.ntmps131
  go_wp2_with (go_at_call 152;refine (zcC y a_args c_args _ hcl).mono ?_;rintro e w' ⟨rfl,hb'⟩)
  refine bodyPost_ret (v:=.tuple #[.int .i64 (nx:Int),.bool false]) (by simp [results,Tryz.results131,go_sem]) rfl ⟨⟨nx,by rw [HN.out];rfl,fun n h=>(by rw [HN.out] at h;cases h)⟩,(B0 _).trans (hb'.mono (by simp))⟩
 by_cases hn:6<y.args.length
 ·have hn':(6:Int)<(y.args.length:Int):=by omega
  have HN:Hid (gAc S y nx=none):=show gAc S y nx=none from by rw [G.out,hfo,decide_eq_false (by omega)];rfl
  go_enter Tryz.func131,Tryz.ntmps131
  go_wp2_with (go_at_call 152;refine (zcC y a_args c_args _ hcl).mono ?_;rintro e w' ⟨rfl,hb'⟩;have q3:w'.cell? ⟨w.heap.size,3,none⟩=some (.slice a_args y.args.length c_args):=zaa hb' (by simp [go_sem]))
  refine bodyPost_ret (v:=.tuple #[.int .i64 (nx:Int),.bool false]) (by simp [results,Tryz.results131,go_sem]) rfl ⟨⟨nx,by rw [HN.out];rfl,fun n h=>(by rw [HN.out] at h;cases h)⟩,(B0 _).trans (hb'.mono (by simp))⟩
 ·have hn':¬ (6:Int)<(y.args.length:Int):=by omega
  have HG0:Hid (gAc S y nx=zaP S y.args nx):=show gAc S y nx=_ from by rw [G.out,hfo,decide_eq_true (by omega)];rfl
  go_enter Tryz.func131,Tryz.ntmps131
  go_wp2_with (go_at_call 152;refine (zcC y a_args c_args _ hcl).mono ?_;rintro e w' ⟨rfl,hb'⟩;have q3:w'.cell? ⟨w.heap.size,3,none⟩=some (.slice a_args y.args.length c_args):=zaa hb' (by simp [go_sem]))
  have hB:Below w.heap.size w w':=(B0 _).trans (hb'.mono (by simp))
  clear q3 hb'
  go_loopw [2,23] (fun n i wr=>∃ (k nk:Nat),k≤y.args.length∧i=.int .i64 k∧n=.int .i64 (nk:Int)∧nk≤60∧zaP S y.args nx=zaP S (y.args.drop k) nk∧Below w.heap.size w wr) (fun _ i _=>y.args.length - (intOf i).toNat)
  case atStart=>exact ⟨0,nx,by omega,rfl,rfl,hnx,rfl,hB⟩
  case round=>
   obtain ⟨k,nk,hk,rfl,rfl,hnk,hG,hb⟩:=hrel
   have HG:Hid (gAc S y nx=zaP S (y.args.drop k) nk):=show gAc S y nx=_ from by rw [HG0.out,hG]
   clear hG
   by_cases hkl:k<y.args.length
   ·obtain ⟨v,hvk⟩:∃ v,y.args[k]?=some v:=⟨y.args[k],by simp [hkl]⟩
    obtain ⟨b,o,rfl,hq,c0⟩:=(h_args.below hb).get hvk
    have HD:Hid (y.args.drop k=v :: y.args.drop (k+1)):=zan hvk
    by_cases v0:v<0
    ·have HN:Hid (gAc S y nx=none):=show gAc S y nx=none from by
      rw [HG.out,HD.out,za0,decide_eq_false (by omega)]
      rfl
     go_wp2
     refine bodyPost_ret (v:=.tuple #[.int .i64 (nk:Int),.bool false]) (by simp [results,Tryz.results131,go_sem]) rfl ⟨⟨nk,by rw [HN.out];rfl,fun n h=>(by rw [HN.out] at h;cases h)⟩,hb⟩
    ·by_cases v1:(S.length:Int)≤v
     ·have HN:Hid (gAc S y nx=none):=show gAc S y nx=none from by
       rw [HG.out,HD.out,za0,decide_eq_false (p:=v<(S.length:Int)) (by omega)]
       simp
      go_wp2
      refine bodyPost_ret (v:=.tuple #[.int .i64 (nk:Int),.bool false]) (by simp [results,Tryz.results131,go_sem]) rfl ⟨⟨nk,by rw [HN.out];rfl,fun n h=>(by rw [HN.out] at h;cases h)⟩,hb⟩
     ·obtain ⟨vn,rfl⟩:=Int.eq_ofNat_of_zero_le (show 0≤v by omega)
      have hvn:vn<S.length:=by omega
      obtain ⟨s,hs⟩:∃ s,S[vn]?=some s:=⟨S[vn],by simp⟩
      obtain ⟨b',o',rfl,hbw,d0,d1⟩:=(hv.below hb).get hs
      have z1:¬ S.length≤vn:=by omega
      cases e3:((s.1:Int) != (nk:Int))
      ·have HN:Hid (gAc S y nx=zaP S (y.args.drop (k+1)) (vn+1)):=show gAc S y nx=_ from by
        have:s.1=nk:=by (simp at e3;omega)
        rw [HG.out,HD.out,za0,decide_eq_true (by omega),decide_eq_true (by omega),Int.toNat_natCast,hs,Option.getD_some,decide_eq_true this]
        rfl
       go_wp2
       go_roundw
       case rel=>
        exact ⟨k+1,vn+1,by omega,by go_num,by go_num,by omega,by rw [← HG0.out,HN.out],hb⟩
       case measure=>simp [intOf];omega
      ·have HN:Hid (gAc S y nx=none):=show gAc S y nx=none from by
        have:¬ s.1=nk:=by (simp at e3;omega)
        rw [HG.out,HD.out,za0,Int.toNat_natCast,hs,Option.getD_some,decide_eq_false this]
        simp
       go_wp2
       refine bodyPost_ret (v:=.tuple #[.int .i64 (nk:Int),.bool false]) (by simp [results,Tryz.results131,go_sem]) rfl ⟨⟨nk,by rw [HN.out];rfl,fun n h=>(by rw [HN.out] at h;cases h)⟩,hb⟩
   ·have HN:Hid (gAc S y nx=some nk):=show gAc S y nx=_ from by
     rw [HG.out,List.drop_eq_nil_of_le (by omega)]
     rfl
    go_wp2
    refine bodyPost_ret (v:=.tuple #[.int .i64 (nk:Int),.bool true]) (by simp [results,Tryz.results131,go_sem]) rfl ⟨⟨nk,by rw [HN.out];rfl,fun n h=>(by rw [HN.out] at h;injection h with h;subst h;exact ⟨rfl,hnk⟩)⟩,hb⟩
end Go.Proofs.YtmmdlgjmplddiaaGreat
namespace Go.Proofs.YtmmdlgjmplddiaaGreat
open Go.RowKit
attribute [local go_sem ↓] Go.wp_at_zero Go.wp_at_succ
def rest (x:Ru):Option Nat:=if (zas [] x.exprs).length<x.exprs.length then some ((zas [] x.exprs).length+1) else zb6 (zas [] x.exprs) x.acts 0 1
theorem zg1 (x:Ru) (h:zci x=true):shape x=match zaD gPt x.pats 1 with | some i=>some i | none=>rest x:=by
 unfold shape rest
 rw [if_pos h]
 cases zaD gPt x.pats 1 <;> rfl
theorem zca (S:List Sp) (a:Ac) (r:List Ac) (nx k:Nat):zb6 S (a :: r) nx k=match gAc S a nx with | none=>some k | some nx'=>zb6 S r nx' (k+1):=rfl
set_option maxHeartbeats 3200000 in
theorem zk6 (x:Ru) (a_pats:Option Addr) (c_pats:Nat) (a_exprs:Option Addr) (c_exprs:Nat) (a_acts:Option Addr) (c_acts:Nat) {q:Option Nat} (w:World) (h_pats:zbY q w a_pats x.pats) (h_exprs:za8 q w a_exprs x.exprs) (h_acts:zcu q w a_acts x.acts) (hle:x.le 1048576) (ho:zd0 x.exprs) :
  Calls Tryz.prog 100 #[.agg #[.string x.name,.int .i64 x.sal,.slice a_pats x.pats.length c_pats,.slice a_exprs x.exprs.length c_exprs,.slice a_acts x.acts.length c_acts]] w fun e w'=>
   (∃ i:Int,e=.returned (.tuple #[.int .i64 i,.bool (shape x).isNone])∧∀ n,shape x=some n→i=(n:Int))∧Below w.heap.size w w':=by
 obtain ⟨hsn0,hsp,hse,hsa⟩:=hle
 have hsn:x.name.size≤maxLen:=Nat.le_trans hsn0 zbj
 have hpl:=hsp.1
 have hel:=hse.1
 have hal:=hsa.1
 have B0:∀ o,Below w.heap.size w (w.alloc o):=fun o=>(Below.refl _ _).alloc (Nat.le_refl _) _
 cases hg:gSym x.name.data.toList
 ·have HN:Hid (shape x=some 0):=show shape x=some 0 from by simp [shape,zci,hg]
  go_enter Tryz.func100,Tryz.ntmps100
  go_wp2_with (go_at_call 106;refine (zaQ x.name _ hsn).mono ?_;rintro e w' ⟨rfl,rfl⟩)
  refine bodyPost_ret (v:=.tuple #[.int .i64 0,.bool false]) (by simp [results,Tryz.results100,go_sem]) rfl ⟨⟨0,by rw [HN.out];rfl,fun i h=>(by rw [HN.out] at h;injection h with h;subst h;rfl)⟩,B0 _⟩
 by_cases l6:6<x.pats.length
 ·have l6':(6:Int)<(x.pats.length:Int):=by omega
  have HN:Hid (shape x=some 0):=show shape x=some 0 from by simp [shape,zci];omega
  go_enter Tryz.func100,Tryz.ntmps100
  go_wp2_with (go_at_call 106;refine (zaQ x.name _ hsn).mono ?_;rintro e w' ⟨rfl,rfl⟩)
  refine bodyPost_ret (v:=.tuple #[.int .i64 0,.bool false]) (by simp [results,Tryz.results100,go_sem]) rfl ⟨⟨0,by rw [HN.out];rfl,fun i h=>(by rw [HN.out] at h;injection h with h;subst h;rfl)⟩,B0 _⟩
 have l6':¬ (6:Int)<(x.pats.length:Int):=by omega
 by_cases l8:8<x.acts.length
 ·have l8':(8:Int)<(x.acts.length:Int):=by omega
  have HN:Hid (shape x=some 0):=show shape x=some 0 from by simp [shape,zci];omega
  go_enter Tryz.func100,Tryz.ntmps100
  go_wp2_with (go_at_call 106;refine (zaQ x.name _ hsn).mono ?_;rintro e w' ⟨rfl,rfl⟩)
  refine bodyPost_ret (v:=.tuple #[.int .i64 0,.bool false]) (by simp [results,Tryz.results100,go_sem]) rfl ⟨⟨0,by rw [HN.out];rfl,fun i h=>(by rw [HN.out] at h;injection h with h;subst h;rfl)⟩,B0 _⟩
 have l8':¬ (8:Int)<(x.acts.length:Int):=by omega
 by_cases l60:60<x.exprs.length
 ·have l60':(60:Int)<(x.exprs.length:Int):=by omega
  have HN:Hid (shape x=some 0):=show shape x=some 0 from by simp [shape,zci];omega
  go_enter Tryz.func100,Tryz.ntmps100
  go_wp2_with (go_at_call 106;refine (zaQ x.name _ hsn).mono ?_;rintro e w' ⟨rfl,rfl⟩)
  refine bodyPost_ret (v:=.tuple #[.int .i64 0,.bool false]) (by simp [results,Tryz.results100,go_sem]) rfl ⟨⟨0,by rw [HN.out];rfl,fun i h=>(by rw [HN.out] at h;injection h with h;subst h;rfl)⟩,B0 _⟩
 have l60':¬ (60:Int)<(x.exprs.length:Int):=by omega
 have HH:Hid (shape x=match zaD gPt x.pats 1 with | some i=>some i | none=>rest x):=zg1 x (by simp [zci,hg];omega)
 go_enter Tryz.func100,Tryz.ntmps100
 go_wp2_with (go_at_call 106;refine (zaQ x.name _ hsn).mono ?_;rintro e w' ⟨rfl,rfl⟩)
 go_loopw [35] (fun i wr=>∃ (k:Nat),k≤x.pats.length∧i=.int .i64 k∧(shape x=match zaD gPt (x.pats.drop k) (k+1) with | some i=>some i | none=>rest x)∧zcf wr w.heap.size x a_pats c_pats a_exprs c_exprs a_acts c_acts∧Below w.heap.size w wr) (fun i _=>x.pats.length - (intOf i).toNat)
 case atStart=>exact ⟨0,by omega,rfl,HH.out,zcf.made _ _ _ _ _ _ _ _ _,B0 _⟩
 case round=>
  obtain ⟨k,hk,rfl,hG,hbox,hb⟩:=hrel
  have HG:Hid (shape x=match zaD gPt (x.pats.drop k) (k+1) with | some i=>some i | none=>rest x):=hG
  clear hG
  by_cases hkl:k<x.pats.length
  ·obtain ⟨p,hpk⟩:∃ p,x.pats[k]?=some p:=⟨x.pats[k],by simp [hkl]⟩
   obtain ⟨b,o,a_terms,c_terms,rfl,hq,c0,c1,c2,h_terms⟩:=(h_pats.below hb).get hpk
   have hpp:=hsp.2 p (List.mem_of_getElem? hpk)
   have HD:Hid (x.pats.drop k=p :: x.pats.drop (k+1)):=zan hpk
   have B1:∀ o,Below wr.heap.size wr (wr.alloc o):=fun o=>(Below.refl _ _).alloc (Nat.le_refl _) _
   cases hgp:gPt p
   all_goals
    go_wp2_with (go_at_call 103;refine (zes p a_terms c_terms _ (h_terms.below (B1 _)) (Nat.le_trans hpp.1 zbj) (hpp.2.mono zbj (Tm.mono zbj)) hpp.2.1).mono ?_;rintro e w1 ⟨rfl,hb1⟩)
   ·have HN:Hid (shape x=some (k+1)):=show shape x=_ from by rw [HG.out,HD.out,zaA,hgp];rfl
    have hW1:Below wr.heap.size wr w1:=(B1 _).trans (hb1.mono (by simp))
    refine bodyPost_ret (v:=.tuple #[.int .i64 ((k:Int)+1),.bool false]) (by simp [results,Tryz.results100,go_sem]) rfl ⟨⟨(k:Int)+1,by rw [HN.out];rfl,fun i h=>(by rw [HN.out] at h;injection h with h;subst h;simp)⟩,hb.trans (hW1.mono hb.size)⟩
   ·have HN:Hid (shape x=match zaD gPt (x.pats.drop (k+1)) (k+1+1) with | some i=>some i | none=>rest x):=show shape x=_ from by rw [HG.out,HD.out,zaA,hgp];rfl
    have hW1:Below wr.heap.size wr w1:=(B1 _).trans (hb1.mono (by simp))
    go_roundw
    case rel=>exact ⟨k+1,by omega,by go_num,HN.out,hbox.below hW1,hb.trans (hW1.mono hb.size)⟩
    case measure=>simp [intOf];omega
  ·have HR:Hid (shape x=rest x):=show shape x=rest x from by rw [HG.out,List.drop_eq_nil_of_le (by omega)];rfl
   have HBX:=zbK hbox
   obtain ⟨q0,q1,q2,q3,q4⟩:=hbox
   obtain ⟨HSp,HSl⟩:=zcq (es:=x.exprs) (l:=x.exprs) (Spans.nil x.exprs) rfl
   have hSl:=HSp.1
   have HS:=zbK HSp
   clear HSp HSl
   by_cases hfull:(zas [] x.exprs).length=x.exprs.length
   ·have HF:Hid (rest x=zb6 (zas [] x.exprs) x.acts 0 1):=show rest x=_ from by unfold rest;rw [if_neg (by omega)]
    have hdt:decide ((zas [] x.exprs).length=x.exprs.length)=true:=decide_eq_true hfull
    have hfl:=zbK hfull
    clear hfull
    go_wp2_with (go_at_call 130;refine (zha x a_pats c_pats a_exprs c_exprs a_acts c_acts _ (h_exprs.below hb) (by omega) (hse.mono zbj (Ex.mono zbj)) ho).mono ?_;rintro e w1 ⟨⟨a_s,c_s,rfl,hsps⟩,hb1⟩;have r4:=zaa hb1 q4)
    have hbx1:=HBX.out.below hb1
    have hB1:Below w.heap.size w w1:=hb.trans (hb1.mono hb.size)
    clear q0 q1 q2 q3 q4 r4 HBX hb1 hdt
    go_loopw [7,59] (fun nv i wr'=>∃ (k nk:Nat),k≤x.acts.length∧i=.int .i64 k∧nv=.int .i64 (nk:Int)∧nk≤60∧shape x=zb6 (zas [] x.exprs) (x.acts.drop k) nk (k+1)∧zcf wr' w.heap.size x a_pats c_pats a_exprs c_exprs a_acts c_acts∧zdo none wr' a_s (zas [] x.exprs)∧Below w.heap.size w wr') (fun _ i _=>x.acts.length - (intOf i).toNat)
    case atStart=>exact ⟨0,0,by omega,rfl,rfl,by omega,by rw [HR.out,HF.out];rfl,hbx1,hsps,hB1⟩
    case round=>
     obtain ⟨k,nk,hk,rfl,rfl,hnk,hG,hbox2,hsp2,hb2⟩:=hrel
     have HG2:=zbK hG
     have HBX2:=zbK hbox2
     clear hG
     by_cases hkl2:k<x.acts.length
     ·obtain ⟨y,hyk⟩:∃ y,x.acts[k]?=some y:=⟨x.acts[k],by simp [hkl2]⟩
      obtain ⟨b,o,a_args,c_args,rfl,hq,c0,c1,c2,c3,h_args⟩:=(h_acts.below hb2).get hyk
      have hyy:=hsa.2 y (List.mem_of_getElem? hyk)
      have HD:Hid (x.acts.drop k=y :: x.acts.drop (k+1)):=zan hyk
      have B1:∀ o,Below wr.heap.size wr (wr.alloc o):=fun o=>(Below.refl _ _).alloc (Nat.le_refl _) _
      clear hbox2
      cases hga:gAc (zas [] x.exprs) y nk with
      | none=>
       have HN:Hid (shape x=some (k+1)):=show shape x=_ from by rw [HG2.out,HD.out,zca,hga]
       have hAR:=zbK (fun w h1 h2=>zeu y a_args c_args a_s c_s (zas [] x.exprs) nk (q:=q) (q':=none) w h1 h2 (by omega) (Nat.le_trans hyy.1 zbj) hyy.2 hnk)
       rw [hga] at hAR
       go_wp2_with (go_at_call 131;refine (hAR.out _ (h_args.below (B1 _)) (hsp2.below (B1 _))).mono ?_;rintro e w3 ⟨⟨v,rfl,hvn⟩,hb3⟩)
       have hW3:Below wr.heap.size wr w3:=(B1 _).trans (hb3.mono (by simp))
       refine bodyPost_ret (v:=.tuple #[.int .i64 ((k:Int)+1),.bool false]) (by simp [results,Tryz.results100,go_sem]) rfl ⟨⟨(k:Int)+1,by rw [HN.out];rfl,fun i h=>(by rw [HN.out] at h;injection h with h;subst h;simp)⟩,hb2.trans (hW3.mono hb2.size)⟩
      | some nk'=>
       have HN:Hid (shape x=zb6 (zas [] x.exprs) (x.acts.drop (k+1)) nk' (k+1+1)):=show shape x=_ from by rw [HG2.out,HD.out,zca,hga]
       have hAR:=zbK (fun w h1 h2=>zeu y a_args c_args a_s c_s (zas [] x.exprs) nk (q:=q) (q':=none) w h1 h2 (by omega) (Nat.le_trans hyy.1 zbj) hyy.2 hnk)
       rw [hga] at hAR
       go_wp2_with (go_at_call 131;refine (hAR.out _ (h_args.below (B1 _)) (hsp2.below (B1 _))).mono ?_;rintro e w3 ⟨⟨v,rfl,hvn⟩,hb3⟩;obtain ⟨rfl,hn60⟩:=hvn nk' rfl)
       have hW3:Below wr.heap.size wr w3:=(B1 _).trans (hb3.mono (by simp))
       go_roundw
       case rel=>exact ⟨k+1,nk',by omega,by go_num,rfl,hn60,HN.out,HBX2.out.below hW3,hsp2.below hW3,hb2.trans (hW3.mono hb2.size)⟩
       case measure=>simp [intOf];omega
     ·have e0:x.acts.drop k=[]:=List.drop_eq_nil_of_le (by omega)
      obtain ⟨q0,q1,q2,q3,q4⟩:=hbox2
      have hkk:k=x.acts.length:=by omega
      have HE:Hid (shape x=if nk=(zas [] x.exprs).length then none else some (k+1)):=show shape x=_ from by rw [HG2.out,e0];rfl
      go_wp2
      by_cases hfin:nk=(zas [] x.exprs).length
      ·refine bodyPost_ret (v:=.tuple #[.int .i64 ((x.acts.length:Int)+1),.bool true]) (by simp [results,Tryz.results100,go_sem,hfin]) rfl ⟨⟨_,by rw [HE.out,if_pos hfin];rfl,fun i h=>(by rw [HE.out,if_pos hfin] at h;cases h)⟩,hb2⟩
      ·have hfin':((nk:Int)==((zas [] x.exprs).length:Int))=false:=by simp;omega
       refine bodyPost_ret (v:=.tuple #[.int .i64 ((x.acts.length:Int)+1),.bool false]) (by simp [results,Tryz.results100,go_sem];omega) rfl ⟨⟨_,by rw [HE.out,if_neg hfin];rfl,fun i h=>(by rw [HE.out,if_neg hfin] at h;injection h with h;subst h;simp;omega)⟩,hb2⟩
   ·have HF:Hid (rest x=some ((zas [] x.exprs).length+1)):=show rest x=_ from by unfold rest;rw [if_pos (by omega)]
    have hdt:decide ((zas [] x.exprs).length=x.exprs.length)=false:=decide_eq_false hfull
    have hfl:=zbK hfull
    clear hfull
    go_wp2_with (go_at_call 130;refine (zha x a_pats c_pats a_exprs c_exprs a_acts c_acts _ (h_exprs.below hb) (by omega) (hse.mono zbj (Ex.mono zbj)) ho).mono ?_;rintro e w1 ⟨⟨a_s,c_s,rfl,hsps⟩,hb1⟩)
    refine bodyPost_ret (v:=.tuple #[.int .i64 (((zas [] x.exprs).length:Int)+1),.bool false]) (by simp [results,Tryz.results100,go_sem]) rfl ⟨⟨((zas [] x.exprs).length:Int)+1,by rw [HR.out,HF.out];rfl,fun i h=>(by rw [HR.out,HF.out] at h;injection h with h;subst h;simp)⟩,hb.trans (hb1.mono hb.size)⟩
end Go.Proofs.YtmmdlgjmplddiaaGreat
namespace Go.Proofs.YtmmdlgjmplddiaaGreat
open Go.RowKit
attribute [local go_sem ↓] Go.wp_at_zero Go.wp_at_succ
theorem zc5 {a b:Int}{p:Int × Int} (h:p=(a,b)):Ending.returned (.tuple #[.int .i64 a,.int .i64 b])=.returned (.tuple #[.int .i64 p.1,.int .i64 p.2]):=by rw [h]
theorem zdZ {α:Type}{f:α→Bool}:∀ {l:List α}{k:Nat},zaD f l k=none→∀ x∈l,f x=true
 | [],_,_,x,hx=>by simp at hx
 | y :: r,k,h,x,hx=>by
  rw [zaA] at h
  split at h
  ·rename_i hy
   rcases List.mem_cons.1 hx with rfl | hm
   ·exact hy
   ·exact zdZ h x hm
  ·cases h
theorem zf3 {S:List Sp}:∀ {l:List Int}{nx n:Nat},zaP S l nx=some n→∀ v∈l,0≤v∧v<(S.length:Int)
 | [],_,_,_,v,hv=>by simp at hv
 | x :: r,nx,n,h,v,hv=>by
  rw [za0] at h
  split at h
  ·rename_i hc
   simp only [Bool.and_eq_true,decide_eq_true_eq] at hc
   rcases List.mem_cons.1 hv with rfl | hm
   ·exact ⟨hc.1,hc.2.1⟩
   ·exact zf3 h v hm
  ·cases h
theorem zeS {S:List Sp}:∀ {l:List Ac}{nx k:Nat},zb6 S l nx k=none→∀ y∈l,∀ v∈y.args,0≤v∧v<(S.length:Int)
 | [],_,_,_,y,hy,_,_=>by simp at hy
 | a :: r,nx,k,h,y,hy,v,hv=>by
  rw [zca] at h
  cases hg:gAc S a nx with
  | none=>rw [hg] at h;cases h
  | some n'=>
   rw [hg] at h
   rcases List.mem_cons.1 hy with rfl | hm
   ·unfold gAc at hg
    split at hg
    ·exact zf3 hg v hv
    ·cases hg
   ·exact zeS h y hm v hv
theorem zed {x:Ru} (h:shape x=none):x.pats.length≤6∧x.acts.length≤8∧x.exprs.length≤60∧(∀ p∈x.pats,p.terms.length≤6)∧(zas [] x.exprs).length=x.exprs.length∧∀ y∈x.acts,∀ v∈y.args,0≤v∧v<(x.exprs.length:Int):=by
 have hh:zci x=true:=by
  cases hc:zci x
  ·simp [shape,hc] at h
  ·rfl
 rw [zg1 x hh] at h
 have hh':=hh
 simp only [zci,Bool.and_eq_true,decide_eq_true_eq] at hh'
 cases hf:zaD gPt x.pats 1 with
 | some i=>rw [hf] at h;cases h
 | none=>
  rw [hf] at h
  have h':rest x=none:=h
  unfold rest at h'
  split at h'
  ·cases h'
  ·rename_i hlt
   have hsp:=(zcq (es:=x.exprs) (l:=x.exprs) (Spans.nil x.exprs) rfl).1.1
   have hfull:(zas [] x.exprs).length=x.exprs.length:=by omega
   refine ⟨hh'.2.1,hh'.2.2.1,hh'.2.2.2,fun p hp=>?_,hfull,fun y hy v hv=>?_⟩
   ·have:=zdZ hf p hp
    simp only [gPt,Bool.and_eq_true,decide_eq_true_eq] at this
    exact this.2.1
   ·have:=zeS h' y hy v hv
    omega
theorem zgr {w:World}{b o:Nat}{x:Value} (h:w.cell? ⟨b,o,none⟩=some x):b<w.heap.size:=by
 by_cases hp:b<w.heap.size
 ·exact hp
 ·have:w.heap[b]?=none:=Array.getElem?_eq_none (by omega)
  simp [World.cell?,this] at h
theorem zdG {α:Type}{f:α→Bool}:∀ {l:List α}{k i:Nat},zaD f l k=some i→k≤i
 | [],_,_,h=>by cases h
 | x :: r,k,i,h=>by
  rw [zaA] at h
  split at h
  ·have:=zdG h
   omega
  ·injection h with h
   omega
theorem zhr:∀ {l:List Pt}{known:List ByteArray}{k i:Nat},zbd l known k=.inl i→k≤i
 | [],_,_,_,h=>by cases h
 | p :: r,known,k,i,h=>by
  rw [zbN] at h
  split at h
  ·injection h with h
   omega
  ·have:=zhr h
   omega
theorem zk9 {x:Ru}{i:Nat} (h:scope x=some i):1≤i:=by
 rw [zgL] at h
 split at h
 ·rename_i j hj
  injection h with h
  have:=zhr hj
  omega
 ·have:=zdG h
  omega
theorem zmj {x:Ru}{i:Nat} (h:refs x=some i):1≤i:=by
 have:=zdG h
 omega
set_option maxHeartbeats 3200000 in
theorem zka (x:Ru) (a_pats:Option Addr) (c_pats:Nat) (a_exprs:Option Addr) (c_exprs:Nat) (a_acts:Option Addr) (c_acts:Nat) (a_e:Option Addr) (c_e:Nat) (pre:List Ru) {q:Option Nat} (w:World) (h_pre:zcy q w a_e pre) (h_pats:zbY q w a_pats x.pats) (h_exprs:za8 q w a_exprs x.exprs) (h_acts:zcu q w a_acts x.acts) (hle:x.le 1048576) (ho:zd0 x.exprs) (hcap:x.exprs.length≤c_exprs) (hpl:pre.length≤16) :
  Calls Tryz.prog 66 #[.agg #[.string x.name,.int .i64 x.sal,.slice a_pats x.pats.length c_pats,.slice a_exprs x.exprs.length c_exprs,.slice a_acts x.acts.length c_acts],.slice a_e pre.length c_e] w fun e w'=>
   e=.returned (.tuple #[.int .i64 (chk1 pre x).1,.int .i64 (chk1 pre x).2])∧Below w.heap.size w w':=by
 have hle0:=hle
 obtain ⟨hsn0,hsp,hse,hsa⟩:=hle
 have B0:∀ o,Below w.heap.size w (w.alloc o):=fun o=>(Below.refl _ _).alloc (Nat.le_refl _) _
 have hSH:=zaW (fun w h1 h2 h3=>zk6 x a_pats c_pats a_exprs c_exprs a_acts c_acts (q:=q) w h1 h2 h3 hle0 ho)
 cases hshape:shape x with
 | some i=>
  rw [hshape] at hSH
  have HC:Hid (chk1 pre x=(1,(i:Int))):=show chk1 pre x=_ from by unfold chk1;rw [hshape]
  go_enter Tryz.func66,Tryz.ntmps66
  go_wp2_with (go_at_call 100;refine (hSH.out _ (h_pats.below (B0 _)) (h_exprs.below (B0 _)) (h_acts.below (B0 _))).mono ?_;rintro e w1 ⟨⟨v,rfl,hv⟩,hb1⟩;obtain rfl:=hv i rfl)
  refine bodyPost_ret (v:=.tuple #[.int .i64 (1),.int .i64 ((i:Int))]) (by simp [results,Tryz.results66,go_sem]) rfl ⟨zc5 HC.out,(B0 _).trans (hb1.mono (by simp))⟩
 | none=>
  rw [hshape] at hSH
  obtain ⟨hp6,ha8,he60,hpt,hfull,hargs⟩:=zed hshape
  go_enter Tryz.func66,Tryz.ntmps66
  go_wp2_with (go_at_call 100;refine (hSH.out _ (h_pats.below (B0 _)) (h_exprs.below (B0 _)) (h_acts.below (B0 _))).mono ?_;rintro e w1 ⟨⟨v,rfl,_⟩,hb1⟩)
  have hB1:Below w.heap.size w w1:=(B0 _).trans (hb1.mono (by simp))
  have hbx:=(zcf.made w 35 x a_pats c_pats a_exprs c_exprs a_acts c_acts).below hb1
  clear hb1
  go_loopw [23] (fun i wr=>∃ (k:Nat),k≤pre.length∧i=.int .i64 k∧pre.any (fun o=>decide (o.name=x.name))=(pre.drop k).any (fun o=>decide (o.name=x.name))∧zcf wr w.heap.size x a_pats c_pats a_exprs c_exprs a_acts c_acts∧Below w.heap.size w wr) (fun i _=>pre.length - (intOf i).toNat)
  case atStart=>exact ⟨0,by omega,rfl,rfl,hbx,hB1⟩
  case round=>
   clear hB1 hbx
   obtain ⟨k,hk,rfl,hG,hbox,hb⟩:=hrel
   have HG:=zaW hG
   have HBX:=zaW hbox
   clear hG
   by_cases hkl:k<pre.length
   ·obtain ⟨y,hyk⟩:∃ y,pre[k]?=some y:=⟨pre[k],by simp [hkl]⟩
    obtain ⟨b,o,a1,k1,a2,k2,a3,k3,rfl,hq,c0,c1,c2,c3,c4,_,_,_⟩:=(h_pre.below hb).get hyk
    have HD:Hid (pre.drop k=y :: pre.drop (k+1)):=zan hyk
    have hBa:∀ o,Below w.heap.size w (wr.alloc o):=fun o=>hb.alloc hb.size _
    have hBw:∀ o,Below wr.heap.size wr (wr.alloc o):=fun o=>(Below.refl _ _).alloc (Nat.le_refl _) _
    obtain ⟨q0,q1,q2,q3,q4⟩:=hbox
    have hws:w.heap.size<wr.heap.size:=zgr q0
    have q0':∀ o,(wr.alloc o).cell? ⟨w.heap.size,0,none⟩=some (.string x.name):=fun o=>zaa (hBw o) q0
    clear q1 q2 q3 q4 q0
    cases e1:(y.name.toList==x.name.toList)
    ·have HX:Hid (pre.any (fun o=>decide (o.name=x.name))=(pre.drop (k+1)).any (fun o=>decide (o.name=x.name))):=show _=_ from by
      rw [zaM] at e1
      rw [HG.out,HD.out,List.any_cons,e1]
      rfl
     go_wp2
     go_roundw
     case rel=>exact ⟨k+1,by omega,by go_num,HX.out,HBX.out.below (hBw _),hBa _⟩
     case measure=>simp [intOf];omega
    ·have HX:Hid (chk1 pre x=(2,0)):=show chk1 pre x=_ from by
      rw [zaM] at e1
      unfold chk1
      rw [hshape]
      simp only
      rw [HG.out,HD.out,List.any_cons,e1]
      rfl
     go_wp2
     refine bodyPost_ret (v:=.tuple #[.int .i64 (2),.int .i64 (0)]) (by simp [results,Tryz.results66,go_sem]) rfl ⟨zc5 HX.out,hBa _⟩
   ·have HA:Hid (pre.any (fun o=>decide (o.name=x.name))=false):=show _=_ from by rw [HG.out,List.drop_eq_nil_of_le (by omega)];rfl
    have hpos:positives x.pats≤x.pats.length:=List.countP_le_length
    have hUN:=zaW (fun w h1 h2 h3=>zfR x a_pats c_pats a_exprs c_exprs a_acts c_acts (q:=q) w h1 h2 h3 hle0 hp6 hpt hargs hcap he60)
    have hWR:=zaW (fun w h1 h2=>zhO x a_pats c_pats a_exprs c_exprs a_acts c_acts (q:=q) w h1 h2 hsp.1 hsa.1)
    obtain ⟨q0,q1,q2,q3,q4⟩:=hbox
    by_cases hr:1≤positives x.pats∧positives x.pats≤3
    ·have HC:Hid (chk1 pre x=match scope x with | some i=>(4,(i:Int)) | none=>match refs x with | some i=>(5,(i:Int)) | none=>(0,0)):=show chk1 pre x=_ from by
      unfold chk1
      rw [hshape]
      simp only
      rw [HA.out,if_neg (by decide),if_pos hr]
      cases scope x with
      | some i=>rfl
      | none=>cases refs x <;> rfl
     have r0:¬ (positives x.pats:Int)<1:=by omega
     have r1:¬ (3:Int)<(positives x.pats:Int):=by omega
     cases hsc:scope x with
     | some i=>
      rw [hsc] at hUN HC
      simp only [item0] at hUN
      have hi0:((i:Int) != 0)=true:=by
       have:=zk9 hsc
       simp
       omega
      go_wp2_with (first | (go_at_call 61;refine (zbu x a_pats c_pats a_exprs c_exprs a_acts c_acts _ (h_pats.below hb) (by omega)).mono ?_;rintro e w2 ⟨rfl,hb2⟩;obtain ⟨s0,s1,s2,s3,s4⟩:=HBX.out.below hb2) | (go_at_call 101;refine (hUN.out _ (h_pats.below (hb.trans (hb2.mono hb.size))) (h_exprs.below (hb.trans (hb2.mono hb.size))) (h_acts.below (hb.trans (hb2.mono hb.size)))).mono ?_;rintro e w3 ⟨rfl,hb3⟩;obtain ⟨t0,t1,t2,t3,t4⟩:=(HBX.out.below hb2).below hb3) | fail)
      refine bodyPost_ret (v:=.tuple #[.int .i64 (4),.int .i64 ((i:Int))]) (by simp [results,Tryz.results66,go_sem]) rfl ⟨zc5 HC.out,((hb.trans (hb2.mono hb.size)).trans (hb3.mono (hb.trans (hb2.mono hb.size)).size))⟩
     | none=>
      rw [hsc] at hUN HC
      simp only [item0] at hUN
      cases hrf:refs x with
      | some i=>
       rw [hrf] at hWR HC
       simp only [item0] at hWR
       have hi0:((i:Int) != 0)=true:=by
        have:=zmj hrf
        simp
        omega
       go_wp2_with (first | (go_at_call 61;refine (zbu x a_pats c_pats a_exprs c_exprs a_acts c_acts _ (h_pats.below hb) (by omega)).mono ?_;rintro e w2 ⟨rfl,hb2⟩;obtain ⟨s0,s1,s2,s3,s4⟩:=HBX.out.below hb2) | (go_at_call 101;refine (hUN.out _ (h_pats.below (hb.trans (hb2.mono hb.size))) (h_exprs.below (hb.trans (hb2.mono hb.size))) (h_acts.below (hb.trans (hb2.mono hb.size)))).mono ?_;rintro e w3 ⟨rfl,hb3⟩;obtain ⟨t0,t1,t2,t3,t4⟩:=(HBX.out.below hb2).below hb3) | (go_at_call 102;refine (hWR.out _ (h_pats.below ((hb.trans (hb2.mono hb.size)).trans (hb3.mono (hb.trans (hb2.mono hb.size)).size))) (h_acts.below ((hb.trans (hb2.mono hb.size)).trans (hb3.mono (hb.trans (hb2.mono hb.size)).size)))).mono ?_;rintro e w4 ⟨rfl,hb4⟩) | fail)
       refine bodyPost_ret (v:=.tuple #[.int .i64 (5),.int .i64 ((i:Int))]) (by simp [results,Tryz.results66,go_sem]) rfl ⟨zc5 HC.out,(((hb.trans (hb2.mono hb.size)).trans (hb3.mono (hb.trans (hb2.mono hb.size)).size)).trans (hb4.mono ((hb.trans (hb2.mono hb.size)).trans (hb3.mono (hb.trans (hb2.mono hb.size)).size)).size))⟩
      | none=>
       rw [hrf] at hWR HC
       simp only [item0] at hWR
       go_wp2_with (first | (go_at_call 61;refine (zbu x a_pats c_pats a_exprs c_exprs a_acts c_acts _ (h_pats.below hb) (by omega)).mono ?_;rintro e w2 ⟨rfl,hb2⟩;obtain ⟨s0,s1,s2,s3,s4⟩:=HBX.out.below hb2) | (go_at_call 101;refine (hUN.out _ (h_pats.below (hb.trans (hb2.mono hb.size))) (h_exprs.below (hb.trans (hb2.mono hb.size))) (h_acts.below (hb.trans (hb2.mono hb.size)))).mono ?_;rintro e w3 ⟨rfl,hb3⟩;obtain ⟨t0,t1,t2,t3,t4⟩:=(HBX.out.below hb2).below hb3) | (go_at_call 102;refine (hWR.out _ (h_pats.below ((hb.trans (hb2.mono hb.size)).trans (hb3.mono (hb.trans (hb2.mono hb.size)).size))) (h_acts.below ((hb.trans (hb2.mono hb.size)).trans (hb3.mono (hb.trans (hb2.mono hb.size)).size)))).mono ?_;rintro e w4 ⟨rfl,hb4⟩) | fail)
       refine bodyPost_ret (v:=.tuple #[.int .i64 (0),.int .i64 (0)]) (by simp [results,Tryz.results66,go_sem]) rfl ⟨zc5 HC.out,(((hb.trans (hb2.mono hb.size)).trans (hb3.mono (hb.trans (hb2.mono hb.size)).size)).trans (hb4.mono ((hb.trans (hb2.mono hb.size)).trans (hb3.mono (hb.trans (hb2.mono hb.size)).size)).size))⟩
    ·have HC:Hid (chk1 pre x=(3,0)):=show chk1 pre x=_ from by
      unfold chk1
      rw [hshape]
      simp only
      rw [HA.out,if_neg (by decide),if_neg hr]
     by_cases r0:(positives x.pats:Int)<1
     ·go_wp2_with (first | (go_at_call 61;refine (zbu x a_pats c_pats a_exprs c_exprs a_acts c_acts _ (h_pats.below hb) (by omega)).mono ?_;rintro e w2 ⟨rfl,hb2⟩;obtain ⟨s0,s1,s2,s3,s4⟩:=HBX.out.below hb2) | fail)
      refine bodyPost_ret (v:=.tuple #[.int .i64 (3),.int .i64 (0)]) (by simp [results,Tryz.results66,go_sem]) rfl ⟨zc5 HC.out,(hb.trans (hb2.mono hb.size))⟩
     ·have r1:(3:Int)<(positives x.pats:Int):=by omega
      go_wp2_with (first | (go_at_call 61;refine (zbu x a_pats c_pats a_exprs c_exprs a_acts c_acts _ (h_pats.below hb) (by omega)).mono ?_;rintro e w2 ⟨rfl,hb2⟩;obtain ⟨s0,s1,s2,s3,s4⟩:=HBX.out.below hb2) | fail)
      refine bodyPost_ret (v:=.tuple #[.int .i64 (3),.int .i64 (0)]) (by simp [results,Tryz.results66,go_sem]) rfl ⟨zc5 HC.out,(hb.trans (hb2.mono hb.size))⟩
end Go.Proofs.YtmmdlgjmplddiaaGreat
namespace Go.Proofs.YtmmdlgjmplddiaaGreat
open Go.RowKit
theorem zcJ.owns {w:World}{base n:Nat}{a:Option Addr}{c:Nat}{xs:List ByteArray} (h:w.ownsRow base 9 1 (.slice a n c) n (xs.map Value.string)):zcJ none w a xs:=by
 intro i s hs
 have k0:(xs.map Value.string)[i]?=some (.string s):=by simp [hs]
 obtain ⟨g,rfl,_,h0,_⟩:=zam h k0
 refine ⟨g,0,[.string s],rfl,Qb.bare _ _ _,rfl,?_,rfl⟩
 intro j v hj
 have hj0:j=0:=by
  have:=(List.getElem?_eq_some_iff.1 hj).1
  simp at this
  exact this
 subst hj0
 simp at hj
 subst hj
 simpa using h0
theorem zkX {w:World}{base n:Nat}{a:Option Addr}{c:Nat}{xs:List ByteArray} (h:w.ownsRow base 9 1 (.slice a n c) n (xs.map Value.string)) (ha:a=none):xs.length=0:=by
 cases xs with
 | nil=>rfl
 | cons x r=>
  obtain ⟨g,hg,_⟩:=zam h (j:=0) (x:=.string x) (by simp)
  rw [ha] at hg
  cases hg
theorem zls:(Tryz.prog.info? 9).map (fun i=>(i.zero,i.size,i.bytes))=some (some (.string ByteArray.empty),1,16):=by kernel_rfl
theorem zlR (xs:List ByteArray):∀ u∈xs.map Value.string,u.oneCell'=true:=by
 intro u hu
 obtain ⟨s,_,rfl⟩:=List.mem_map.1 hu
 rfl
theorem zlh {w:World}{q:Option Nat}{a:Option Addr}{xs:List ByteArray} (h:zcJ q w a xs):∀ ad,a=some ad→∀ (j:Nat) u,(xs.map Value.string)[j]?=some u→w.cell? (ad.add j)=some u:=by
 intro ad hd j u hu
 rw [List.getElem?_map] at hu
 cases hx:xs[j]? with
 | none=>rw [hx] at hu;cases hu
 | some s=>
  rw [hx] at hu
  simp at hu
  subst hu
  obtain ⟨b,o,rfl,_,hc⟩:=h.get hx
  cases hd
  rw [Addr.add_mid]
  exact hc
theorem zjV {x:Ru} (h:shape x=none):zb6 (zas [] x.exprs) x.acts 0 1=none:=by
 unfold shape at h
 split at h
 ·split at h
  ·cases h
  ·split at h
   ·cases h
   ·exact h
 ·cases h
theorem zlT {S:List Sp}{y:Ac}{nx n:Nat} (h:gAc S y nx=some n):zaP S y.args nx=some n:=by
 unfold gAc at h
 split at h
 ·exact h
 ·cases h
theorem zec {S:List Sp}{x:Int}{r:List Int}{nx n:Nat} (h:zaP S (x :: r) nx=some n):∃ (x0:Nat) (s0:Sp),x=(x0:Int)∧S[x0]?=some s0∧s0.1=nx∧zaP S r (x0+1)=some n:=by
 rw [za0] at h
 split at h
 ·rename_i hc
  simp only [Bool.and_eq_true,decide_eq_true_eq] at hc
  obtain ⟨h0,h1,h2⟩:=hc
  obtain ⟨x0,rfl⟩:=Int.eq_ofNat_of_zero_le h0
  have hx:x0<S.length:=by omega
  refine ⟨x0,S[x0],rfl,by simp,?_,h⟩
  simpa [hx] using h2
 ·cases h
theorem zhF {es:List Ex}{S:List Sp} (hS:Spans es S):∀ {l:List Int}{nx n:Nat},zaP S l nx=some n→nx≤n
 | [],nx,n,h=>by
  have:some nx=some n:=h
  injection this with this
  omega
 | x :: r,nx,n,h=>by
  obtain ⟨x0,s0,rfl,hs,rfl,hr⟩:=zec h
  have h1:=zhF hS hr
  have h2:=hS.first_le x0 s0 hs
  omega
theorem zfB {S:List Sp}:∀ {l:List Int}{nx n:Nat},l≠[]→zaP S l nx=some n→∃ xl:Nat,l.getLast?=some (xl:Int)∧n=xl+1∧xl<S.length
 | [],_,_,h,_=>absurd rfl h
 | x :: r,nx,n,_,h=>by
  obtain ⟨x0,s0,rfl,hs,rfl,hr⟩:=zec h
  cases r with
  | nil=>
   have:some (x0+1)=some n:=hr
   injection this with this
   exact ⟨x0,rfl,this.symm,(List.getElem?_eq_some_iff.1 hs).1⟩
  | cons y r'=>
   obtain ⟨xl,h1,h2,h3⟩:=zfB (l:=y :: r') (by simp) hr
   exact ⟨xl,by simpa using h1,h2,h3⟩
theorem zhk {α:Type}{f:α→Bool}{l:List α}{j:Nat}{x:α} (h:l[j]?=some x):(l.take (j+1)).all f=((l.take j).all f && f x):=by
 rw [List.take_add_one,h]
 simp
theorem zfL {α:Type}{f:α→Bool}{l:List α}{j m:Nat}{x:α} (h:l[j]?=some x) (hj:j<m) (hf:f x=false):(l.take m).all f=false:=by
 rw [List.all_eq_false]
 refine ⟨x,?_,by simp [hf]⟩
 have:(l.take m)[j]?=some x:=by rw [List.getElem?_take,if_pos hj,h]
 exact List.mem_of_getElem? this
theorem ziK {es:List Ex}{known:List ByteArray}{y:Ac}{xl:Nat} (h:y.args.getLast?=some (xl:Int)):zbW es known y=(es.take (xl+1)).all (zbc known):=by
 have h1:y.args.isEmpty=false:=by
  cases hy:y.args with
  | nil=>rw [hy] at h;cases h
  | cons v r=>rfl
 have h2:upTo y=xl+1:=by
  unfold upTo
  rw [h]
  rfl
 unfold zbW
 rw [h1,h2]
 rfl
def zeI:Option Nat→Int
 | none=>-1
 | some i=>(i:Int)
end Go.Proofs.YtmmdlgjmplddiaaGreat
