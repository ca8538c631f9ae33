/-
  OUR OWN TEXT. Ic6, Ic7, one behind the other.
-/
import Derived.Test.YtmmdlgjmplddiaaGreatIc4m
import Derived.Test.YtmmdlgjmplddiaaGreatIc4bm
import Derived.Test.YtmmdlgjmplddiaaGreatKaj
import Derived.Test.YtmmdlgjmplddiaaGreatKbl
import Derived.Test.YtmmdlgjmplddiaaGreatKat
namespace Go.Proofs.YtmmdlgjmplddiaaGreat
open Go.RowKit
attribute [local go_sem ↓] Go.wp_at_zero Go.wp_at_succ
theorem zbL {p:Prop} (h:p):Hid p:=h
set_option maxHeartbeats 800000 in
theorem zeJ (e:Ex) (a:Option Addr) (c:Nat) (S:List Sp) {q:Option Nat} (w:World) (hv:zdx q w a S) (hl:S.length≤60) (hs:e.le maxLen) (ho0:0≤e.op) (ho1:e.op<256) (hd:∀ (i:Nat) (s:Sp),S[i]?=some s→s.1≤i∧s.2≤20) :
  Calls Tryz.prog 151 #[.agg #[.int .i64 e.kind,.int .u8 e.op,.string e.var,.int .i64 e.val.kind,.int .i64 e.val.num,.string e.val.sym,.int .i64 e.a,.int .i64 e.b],.slice a S.length c] w fun r w'=>
   (∃ f d:Int,r=.returned (.tuple #[.agg #[.int .i64 f,.int .i64 d],.bool (zaG S e).isSome])∧∀ s,zaG S e=some s→f=(s.1:Int)∧d=(s.2:Int))∧Below w.heap.size w w':=by
 by_cases k0:e.kind=0
 ·have hs0:zaG S e=if zaP e && (isE e.var && gVal e.val) then some (S.length,0) else none:=by simp [zaG,k0]
  refine (zkb e a c S w hs k0).mono ?_
  rintro r w' ⟨rfl,hb⟩
  rw [hs0]
  refine ⟨⟨S.length,0,?_,?_⟩,hb⟩
  ·cases zaP e && (isE e.var && gVal e.val) <;> rfl
  ·intro s h
   split at h
   ·injection h with h
    rw [← h]
    exact ⟨rfl,rfl⟩
   ·cases h
 by_cases k1:e.kind=1
 ·have hs0:zaG S e=if zaP e && (gSym e.var.data.toList && za1 e.val) then some (S.length,0) else none:=by simp [zaG,k1]
  refine (zkE e a c S w hs k1).mono ?_
  rintro r w' ⟨rfl,hb⟩
  rw [hs0]
  refine ⟨⟨S.length,0,?_,?_⟩,hb⟩
  ·cases zaP e && (gSym e.var.data.toList && za1 e.val) <;> rfl
  ·intro s h
   split at h
   ·injection h with h
    rw [← h]
    exact ⟨rfl,rfl⟩
   ·cases h
 have B3:∀ o o1 o2,Below w.heap.size w (((w.alloc o).alloc o1).alloc o2):=fun o o1 o2=>(((Below.refl _ _).alloc (Nat.le_refl _) _).alloc (by simp) _).alloc (by simp;omega) _
 by_cases k2:e.kind=2
 ·have hsp:=fun w h=>zfe e a c S (q:=q) w h hl k2 ho0 ho1 hd
  simp only [k2] at hsp
  have HP:=zbL hsp
  clear hsp
  go_enter Tryz.func151,Tryz.ntmps151
  go_wp2_with (go_at_call 168;refine (HP.out _ (hv.below (B3 _ _ _))).mono ?_;rintro e' w' ⟨⟨f,d,rfl,hfd⟩,hb'⟩;have y0:w'.cell? ⟨w.heap.size+1,0,none⟩=some (.int .i64 0):=zaa hb' (by simp [go_sem]);have y1:w'.cell? ⟨w.heap.size+1,1,none⟩=some (.int .i64 0):=zaa hb' (by simp [go_sem]);have yf0:w'.frozen? ⟨w.heap.size+1,0,none⟩=false:=(by rw [(bcell hb').2 _ _ (by simp)];simp [go_sem]);have yf1:w'.frozen? ⟨w.heap.size+1,1,none⟩=false:=(by rw [(bcell hb').2 _ _ (by simp)];simp [go_sem]))
  have hB':Below w.heap.size w w':=(B3 _ _ _).trans (hb'.mono (by simp;omega))
  refine bodyPost_ret (v:=.tuple #[.agg #[.int .i64 f,.int .i64 d],.bool (zaG S e).isSome]) (by simp [results,Tryz.results151,go_sem,y0,y1]) rfl ⟨⟨f,d,rfl,hfd⟩,(hB'.setCell (by simp) _).setCell (by simp) _⟩
 ·have HN:Hid (zaG S e=none):=show zaG S e=none from by simp [zaG,k0,k1,k2]
  go_enter Tryz.func151,Tryz.ntmps151
  go_wp2
  refine bodyPost_ret (v:=.tuple #[.agg #[.int .i64 0,.int .i64 0],.bool false]) (by simp [results,Tryz.results151,go_sem]) rfl ⟨⟨0,0,by rw [HN.out];rfl,fun s h=>(by rw [HN.out] at h;cases h)⟩,B3 _ _ _⟩
def zb7 (s:Sp):List Value:=[.int .i64 (s.1:Int),.int .i64 (s.2:Int)]
theorem zhD:∀ (S:List Sp) (i:Nat) (s:Sp),S[i]?=some s→(S.flatMap zb7)[i * 2]?=some (.int .i64 (s.1:Int))∧(S.flatMap zb7)[i * 2+1]?=some (.int .i64 (s.2:Int))
 | [],i,s,h=>by simp at h
 | x :: r,0,s,h=>by
  simp at h
  subst h
  exact ⟨rfl,rfl⟩
 | x :: r,i+1,s,h=>by
  have:=zhD r i s (by simpa using h)
  rw [List.flatMap_cons]
  refine ⟨?_,?_⟩
  ·rw [List.getElem?_append_right (by simp [zb7];omega),show (i+1) * 2 - (zb7 x).length=i * 2 by simp [zb7];omega]
   exact this.1
  ·rw [List.getElem?_append_right (by simp [zb7];omega),show (i+1) * 2+1 - (zb7 x).length=i * 2+1 by simp [zb7];omega]
   exact this.2
theorem zdx.owns {w:World}{base n:Nat}{a:Option Addr}{c:Nat}{S:List Sp} (h:w.ownsRow base 246 2 (.slice a n c) n (S.flatMap zb7)):zdx none w a S:=by
 intro i s hs
 obtain ⟨k0,k1⟩:=zhD S i s hs
 obtain ⟨g,rfl,_,h0,_⟩:=zam h k0
 obtain ⟨g1,he1,_,h1,_⟩:=zam h k1
 cases he1
 refine ⟨g,0,[.int .i64 (s.1:Int),.int .i64 (s.2:Int)],rfl,Qb.bare _ _ _,rfl,?_,rfl⟩
 intro j v hj
 rw [Nat.zero_add]
 match j,hj with
 | 0,hj=>simp at hj;subst hj;exact h0
 | 1,hj=>simp at hj;subst hj;exact h1
theorem zpo:(Tryz.prog.info? 246).map (fun i=>(i.zero,i.size,i.bytes))=some (some (.agg #[.int .i64 0,.int .i64 0]),2,16):=by kernel_rfl
theorem ziE (w:World) (L:List Value) (t:TypeId) (ad:Addr) (e:some (⟨w.heap.size,0,none⟩:Addr)=some ad) (j:Nat) (u:Value) (h:L[j]?=some u):(w.alloc (.cells L.toArray t)).cell? (ad.add j)=some u:=by
 cases e
 rw [Addr.add_mid,Nat.zero_add]
 have hb:=heap_alloc_new w (.cells L.toArray t)
 simp only [World.cell?,hb]
 simpa using h
theorem zfz (w:World) (L:List Value) (t:TypeId) (b:Nat) (hb:b=w.heap.size) (ad:Addr) (e:some (⟨b,0,none⟩:Addr)=some ad) (j:Nat) (u:Value) (h:L[j]?=some u):(w.alloc (.cells L.toArray t)).cell? (ad.add j)=some u:=by
 subst hb
 exact ziE w L t ad e j u h
theorem zme {w w':World}{base:Nat}{e:TypeId}{size:Nat}{v:Value}{n:Nat}{xs:List Value} (h:w.ownsRow base e size v n xs) (hb:Below w.heap.size w w'):w'.ownsRow base e size v n xs:=
 zae h (fun g hg=>hb.block g (h.lt g hg).2)
theorem zjh (s:Sp):∀ u∈zb7 s,u.oneCell'=true:=by
 intro u hu
 simp [zb7] at hu
 rcases hu with rfl | rfl <;> rfl
def zdF (es:List Ex):Prop:=∀ e∈es,0≤e.op∧e.op<256
set_option maxHeartbeats 1600000 in
theorem zhB (x:Ru) (a_pats:Option Addr) (c_pats:Nat) (a_exprs:Option Addr) (c_exprs:Nat) (a_acts:Option Addr) (c_acts:Nat) {q:Option Nat} (w:World) (h_exprs:zbw q w a_exprs x.exprs) (hl:x.exprs.length≤60) (hs:zbu Ex.le maxLen x.exprs) (ho:zdF x.exprs) :
  Calls Tryz.prog 130 #[.agg #[.string x.name,.int .i64 x.sal,.slice a_pats x.pats.length c_pats,.slice a_exprs x.exprs.length c_exprs,.slice a_acts x.acts.length c_acts]] w fun e w'=>
   (∃ a c,e=.returned (.tuple #[.slice a (zaq [] x.exprs).length c,.bool (decide ((zaq [] x.exprs).length=x.exprs.length))])∧zdx none w' a (zaq [] x.exprs))∧Below w.heap.size w w':=by
 go_enter Tryz.func130,Tryz.ntmps130
 go_wp2
 go_loopw [4,12] (fun v i wr=>∃ (S:List Sp) (a:Option Addr) (c:Nat),S.length≤x.exprs.length∧i=.int .i64 (S.length:Int)∧v=.slice a S.length c∧Spans x.exprs S∧zaq [] x.exprs=zaq S (x.exprs.drop S.length)∧wr.ownsRow w.heap.size 246 2 (.slice a S.length c) S.length (S.flatMap zb7)∧Below w.heap.size w wr) (fun _ i _=>x.exprs.length - (intOf i).toNat)
 case atStart=>exact ⟨[],none,0,by simp,rfl,rfl,Spans.nil _,rfl,World.ownsRow_nil _ _ _ _,(Below.refl _ _).alloc (Nat.le_refl _) _⟩
 case round=>
  obtain ⟨S,a,c,hk,rfl,rfl,hS,hG,hown,hb⟩:=hrel
  have HG:Hid (zaq [] x.exprs=zaq S (x.exprs.drop S.length)):=hG
  have HO:=zbL hown
  clear hG hown
  by_cases hkl:S.length<x.exprs.length
  ·obtain ⟨e,hek⟩:∃ e,x.exprs[S.length]?=some e:=⟨x.exprs[S.length],by simp [hkl]⟩
   obtain ⟨b,o,rfl,hq,c0,c1,c2,c3,c4,c5,c6,c7⟩:=(h_exprs.below hb).get hek
   have HD:Hid (x.exprs.drop S.length=e :: x.exprs.drop (S.length+1)):=zak hek
   have hse:=hs.2 e (List.mem_of_getElem? hek)
   obtain ⟨ho0,ho1⟩:=ho e (List.mem_of_getElem? hek)
   have hd:Hid (∀ (i:Nat) (s:Sp),S[i]?=some s→s.1≤i∧s.2≤20):=show ∀ (i:Nat) (s:Sp),S[i]?=some s→s.1≤i∧s.2≤20 from fun i s h=>⟨hS.first_le i s h,hS.depth_le i s h⟩
   have HS:=zbL hS
   clear hS
   have B1:∀ o,Below wr.heap.size wr (wr.alloc o):=fun o=>(Below.refl _ _).alloc (Nat.le_refl _) _
   cases hsp:zaG S e with
   | none=>
    have HN:Hid (zaq [] x.exprs=S):=show zaq [] x.exprs=S from by rw [HG.out,HD.out,zaq,hsp]
    go_wp2_with (go_at_call 151;refine (zeJ e a c S _ ((zdx.owns HO.out).below (B1 _)) (by omega) hse ho0 ho1 hd.out).mono ?_;rintro e' w1 ⟨⟨f,d,rfl,hfd⟩,hb1⟩)
    have hW1:Below wr.heap.size wr w1:=(B1 _).trans (hb1.mono (by simp))
    have hW2:Below w.heap.size w w1:=hb.trans (hW1.mono hb.size)
    refine bodyPost_ret (v:=.tuple #[.slice a S.length c,.bool false]) (by simp [results,Tryz.results130,go_sem]) rfl ⟨⟨a,c,by rw [HN.out,decide_eq_false (by omega)],?_⟩,hW2.alloc hW2.size _⟩
    rw [HN.out]
    exact ((zdx.owns HO.out).below hW1).below ((Below.refl _ _).alloc (Nat.le_refl _) _)
   | some s=>
    have HN:Hid (zaq [] x.exprs=zaq (S ++ [s]) (x.exprs.drop (S.length+1))):=show zaq [] x.exprs=_ from by rw [HG.out,HD.out,zaq,hsp]
    go_wp2_with (first | (go_at_call 151;refine (zeJ e a c S _ ((zdx.owns HO.out).below (B1 _)) (by omega) hse ho0 ho1 hd.out).mono ?_;rintro e' w1 ⟨⟨f,d,rfl,hfd⟩,hb1⟩;obtain ⟨rfl,rfl⟩:=hfd s hsp;have hW1:Below wr.heap.size wr w1:=(B1 _).trans (hb1.mono (by simp));have ho1:=zbL (zme HO.out hW1)) | (at_builtin;refine zad (by rfl) (.tmp 25) (.tmp 27) 221 (by rfl) w.heap.size 246 _ 2 16 Tryz.underlying221 zpo (by rfl) (by omega) _ S.length _ (by rfl) ((ho1.out.alloc _).alloc _) (some ⟨w1.heap.size+1,0,none⟩) 1 1 (by rfl) (zb7 s) (by rfl) (fun e=>by cases e) (zfz _ _ _ _ (by simp)) (zjh s) (by unfold maxLen;omega) (by omega) (by have h1:=hb.size;have h2:=hW1.size;simp;omega) ?_;intro a2 c2' w2 ho2 hg2 hl2))
    have hW2:Below w.heap.size w w1:=hb.trans (hW1.mono hb.size)
    have hsz:=hW2.size
    go_roundw
    case rel=>
     refine ⟨S ++ [s],a2,c2',by simp;omega,by simp,by simp,HS.out.snoc hek hsp,?_,?_,?_⟩
     ·rw [HN.out]
      simp
     ·have:=ho2.out
      rw [List.flatMap_append]
      simpa [zb7] using this
     ·exact ((hW2.alloc hsz _).alloc (by simp;omega) _).grown hg2.out (by simp;omega) (fun j hj=>(ho1.out.lt j hj).1)
    case measure=>simp [intOf];omega
  ·go_wp2
   have HN:Hid (zaq [] x.exprs=S):=show zaq [] x.exprs=S from by
    rw [HG.out,List.drop_eq_nil_of_le (by omega)]
    rfl
   refine bodyPost_ret (v:=.tuple #[.slice a S.length c,.bool true]) (by simp [results,Tryz.results130,go_sem]) rfl ⟨⟨a,c,by rw [HN.out,decide_eq_true (by omega)],?_⟩,hb⟩
   rw [HN.out]
   exact zdx.owns HO.out
end Go.Proofs.YtmmdlgjmplddiaaGreat
namespace Go.Proofs.YtmmdlgjmplddiaaGreat
open Go.RowKit
attribute [local go_sem ↓] Go.wp_at_zero Go.wp_at_succ
def rest (x:Ru):Option Nat:=if (zaq [] x.exprs).length<x.exprs.length then some ((zaq [] x.exprs).length+1) else zb1 (zaq [] x.exprs) x.acts 0 1
theorem zg6 (x:Ru) (h:zco x=true):shape x=match zaB gPt x.pats 1 with | some i=>some i | none=>rest x:=by
 unfold shape rest
 rw [if_pos h]
 cases zaB gPt x.pats 1 <;> rfl
theorem zce (S:List Sp) (a:Ac) (r:List Ac) (nx k:Nat):zb1 S (a :: r) nx k=match gAc S a nx with | none=>some k | some nx'=>zb1 S r nx' (k+1):=rfl
set_option maxHeartbeats 3200000 in
theorem zls (x:Ru) (a_pats:Option Addr) (c_pats:Nat) (a_exprs:Option Addr) (c_exprs:Nat) (a_acts:Option Addr) (c_acts:Nat) {q:Option Nat} (w:World) (h_pats:zcf q w a_pats x.pats) (h_exprs:zbw q w a_exprs x.exprs) (h_acts:zcO q w a_acts x.acts) (hle:x.le 1048576) (ho:zdF x.exprs) :
  Calls Tryz.prog 100 #[.agg #[.string x.name,.int .i64 x.sal,.slice a_pats x.pats.length c_pats,.slice a_exprs x.exprs.length c_exprs,.slice a_acts x.acts.length c_acts]] w fun e w'=>
   (∃ i:Int,e=.returned (.tuple #[.int .i64 i,.bool (shape x).isNone])∧∀ n,shape x=some n→i=(n:Int))∧Below w.heap.size w w':=by
 obtain ⟨hsn0,hsp,hse,hsa⟩:=hle
 have hsn:x.name.size≤maxLen:=Nat.le_trans hsn0 zbf
 have hpl:=hsp.1
 have hel:=hse.1
 have hal:=hsa.1
 have B0:∀ o,Below w.heap.size w (w.alloc o):=fun o=>(Below.refl _ _).alloc (Nat.le_refl _) _
 cases hg:gSym x.name.data.toList
 ·have HN:Hid (shape x=some 0):=show shape x=some 0 from by simp [shape,zco,hg]
  go_enter Tryz.func100,Tryz.ntmps100
  go_wp2_with (go_at_call 106;refine (zaO x.name _ hsn).mono ?_;rintro e w' ⟨rfl,rfl⟩)
  refine bodyPost_ret (v:=.tuple #[.int .i64 0,.bool false]) (by simp [results,Tryz.results100,go_sem]) rfl ⟨⟨0,by rw [HN.out];rfl,fun i h=>(by rw [HN.out] at h;injection h with h;subst h;rfl)⟩,B0 _⟩
 by_cases l6:6<x.pats.length
 ·have l6':(6:Int)<(x.pats.length:Int):=by omega
  have HN:Hid (shape x=some 0):=show shape x=some 0 from by simp [shape,zco];omega
  go_enter Tryz.func100,Tryz.ntmps100
  go_wp2_with (go_at_call 106;refine (zaO x.name _ hsn).mono ?_;rintro e w' ⟨rfl,rfl⟩)
  refine bodyPost_ret (v:=.tuple #[.int .i64 0,.bool false]) (by simp [results,Tryz.results100,go_sem]) rfl ⟨⟨0,by rw [HN.out];rfl,fun i h=>(by rw [HN.out] at h;injection h with h;subst h;rfl)⟩,B0 _⟩
 have l6':¬ (6:Int)<(x.pats.length:Int):=by omega
 by_cases l8:8<x.acts.length
 ·have l8':(8:Int)<(x.acts.length:Int):=by omega
  have HN:Hid (shape x=some 0):=show shape x=some 0 from by simp [shape,zco];omega
  go_enter Tryz.func100,Tryz.ntmps100
  go_wp2_with (go_at_call 106;refine (zaO x.name _ hsn).mono ?_;rintro e w' ⟨rfl,rfl⟩)
  refine bodyPost_ret (v:=.tuple #[.int .i64 0,.bool false]) (by simp [results,Tryz.results100,go_sem]) rfl ⟨⟨0,by rw [HN.out];rfl,fun i h=>(by rw [HN.out] at h;injection h with h;subst h;rfl)⟩,B0 _⟩
 have l8':¬ (8:Int)<(x.acts.length:Int):=by omega
 by_cases l60:60<x.exprs.length
 ·have l60':(60:Int)<(x.exprs.length:Int):=by omega
  have HN:Hid (shape x=some 0):=show shape x=some 0 from by simp [shape,zco];omega
  go_enter Tryz.func100,Tryz.ntmps100
  go_wp2_with (go_at_call 106;refine (zaO x.name _ hsn).mono ?_;rintro e w' ⟨rfl,rfl⟩)
  refine bodyPost_ret (v:=.tuple #[.int .i64 0,.bool false]) (by simp [results,Tryz.results100,go_sem]) rfl ⟨⟨0,by rw [HN.out];rfl,fun i h=>(by rw [HN.out] at h;injection h with h;subst h;rfl)⟩,B0 _⟩
 have l60':¬ (60:Int)<(x.exprs.length:Int):=by omega
 have HH:Hid (shape x=match zaB gPt x.pats 1 with | some i=>some i | none=>rest x):=zg6 x (by simp [zco,hg];omega)
 go_enter Tryz.func100,Tryz.ntmps100
 go_wp2_with (go_at_call 106;refine (zaO x.name _ hsn).mono ?_;rintro e w' ⟨rfl,rfl⟩)
 go_loopw [35] (fun i wr=>∃ (k:Nat),k≤x.pats.length∧i=.int .i64 k∧(shape x=match zaB gPt (x.pats.drop k) (k+1) with | some i=>some i | none=>rest x)∧zb8 wr w.heap.size x a_pats c_pats a_exprs c_exprs a_acts c_acts∧Below w.heap.size w wr) (fun i _=>x.pats.length - (intOf i).toNat)
 case atStart=>exact ⟨0,by omega,rfl,HH.out,zb8.made _ _ _ _ _ _ _ _ _,B0 _⟩
 case round=>
  obtain ⟨k,hk,rfl,hG,hbox,hb⟩:=hrel
  have HG:Hid (shape x=match zaB gPt (x.pats.drop k) (k+1) with | some i=>some i | none=>rest x):=hG
  clear hG
  by_cases hkl:k<x.pats.length
  ·obtain ⟨p,hpk⟩:∃ p,x.pats[k]?=some p:=⟨x.pats[k],by simp [hkl]⟩
   obtain ⟨b,o,a_terms,c_terms,rfl,hq,c0,c1,c2,h_terms⟩:=(h_pats.below hb).get hpk
   have hpp:=hsp.2 p (List.mem_of_getElem? hpk)
   have HD:Hid (x.pats.drop k=p :: x.pats.drop (k+1)):=zak hpk
   have B1:∀ o,Below wr.heap.size wr (wr.alloc o):=fun o=>(Below.refl _ _).alloc (Nat.le_refl _) _
   cases hgp:gPt p
   all_goals
    go_wp2_with (go_at_call 103;refine (zeE p a_terms c_terms _ (h_terms.below (B1 _)) (Nat.le_trans hpp.1 zbf) (hpp.2.mono zbf (Tm.mono zbf)) hpp.2.1).mono ?_;rintro e w1 ⟨rfl,hb1⟩)
   ·have HN:Hid (shape x=some (k+1)):=show shape x=_ from by rw [HG.out,HD.out,zax,hgp];rfl
    have hW1:Below wr.heap.size wr w1:=(B1 _).trans (hb1.mono (by simp))
    refine bodyPost_ret (v:=.tuple #[.int .i64 ((k:Int)+1),.bool false]) (by simp [results,Tryz.results100,go_sem]) rfl ⟨⟨(k:Int)+1,by rw [HN.out];rfl,fun i h=>(by rw [HN.out] at h;injection h with h;subst h;simp)⟩,hb.trans (hW1.mono hb.size)⟩
   ·have HN:Hid (shape x=match zaB gPt (x.pats.drop (k+1)) (k+1+1) with | some i=>some i | none=>rest x):=show shape x=_ from by rw [HG.out,HD.out,zax,hgp];rfl
    have hW1:Below wr.heap.size wr w1:=(B1 _).trans (hb1.mono (by simp))
    go_roundw
    case rel=>exact ⟨k+1,by omega,by go_num,HN.out,hbox.below hW1,hb.trans (hW1.mono hb.size)⟩
    case measure=>simp [intOf];omega
  ·have HR:Hid (shape x=rest x):=show shape x=rest x from by rw [HG.out,List.drop_eq_nil_of_le (by omega)];rfl
   have HBX:=zbL hbox
   obtain ⟨q0,q1,q2,q3,q4⟩:=hbox
   obtain ⟨HSp,HSl⟩:=zcv (es:=x.exprs) (l:=x.exprs) (Spans.nil x.exprs) rfl
   have hSl:=HSp.1
   have HS:=zbL HSp
   clear HSp HSl
   by_cases hfull:(zaq [] x.exprs).length=x.exprs.length
   ·have HF:Hid (rest x=zb1 (zaq [] x.exprs) x.acts 0 1):=show rest x=_ from by unfold rest;rw [if_neg (by omega)]
    have hdt:decide ((zaq [] x.exprs).length=x.exprs.length)=true:=decide_eq_true hfull
    have hfl:=zbL hfull
    clear hfull
    go_wp2_with (go_at_call 130;refine (zhB x a_pats c_pats a_exprs c_exprs a_acts c_acts _ (h_exprs.below hb) (by omega) (hse.mono zbf (Ex.mono zbf)) ho).mono ?_;rintro e w1 ⟨⟨a_s,c_s,rfl,hsps⟩,hb1⟩;have r4:=zaa hb1 q4)
    have hbx1:=HBX.out.below hb1
    have hB1:Below w.heap.size w w1:=hb.trans (hb1.mono hb.size)
    clear q0 q1 q2 q3 q4 r4 HBX hb1 hdt
    go_loopw [7,59] (fun nv i wr'=>∃ (k nk:Nat),k≤x.acts.length∧i=.int .i64 k∧nv=.int .i64 (nk:Int)∧nk≤60∧shape x=zb1 (zaq [] x.exprs) (x.acts.drop k) nk (k+1)∧zb8 wr' w.heap.size x a_pats c_pats a_exprs c_exprs a_acts c_acts∧zdx none wr' a_s (zaq [] x.exprs)∧Below w.heap.size w wr') (fun _ i _=>x.acts.length - (intOf i).toNat)
    case atStart=>exact ⟨0,0,by omega,rfl,rfl,by omega,by rw [HR.out,HF.out];rfl,hbx1,hsps,hB1⟩
    case round=>
     obtain ⟨k,nk,hk,rfl,rfl,hnk,hG,hbox2,hsp2,hb2⟩:=hrel
     have HG2:=zbL hG
     have HBX2:=zbL hbox2
     clear hG
     by_cases hkl2:k<x.acts.length
     ·obtain ⟨y,hyk⟩:∃ y,x.acts[k]?=some y:=⟨x.acts[k],by simp [hkl2]⟩
      obtain ⟨b,o,a_args,c_args,rfl,hq,c0,c1,c2,c3,h_args⟩:=(h_acts.below hb2).get hyk
      have hyy:=hsa.2 y (List.mem_of_getElem? hyk)
      have HD:Hid (x.acts.drop k=y :: x.acts.drop (k+1)):=zak hyk
      have B1:∀ o,Below wr.heap.size wr (wr.alloc o):=fun o=>(Below.refl _ _).alloc (Nat.le_refl _) _
      clear hbox2
      cases hga:gAc (zaq [] x.exprs) y nk with
      | none=>
       have HN:Hid (shape x=some (k+1)):=show shape x=_ from by rw [HG2.out,HD.out,zce,hga]
       have hAR:=zbL (fun w h1 h2=>zeI y a_args c_args a_s c_s (zaq [] x.exprs) nk (q:=q) (q':=none) w h1 h2 (by omega) (Nat.le_trans hyy.1 zbf) hyy.2 hnk)
       rw [hga] at hAR
       go_wp2_with (go_at_call 131;refine (hAR.out _ (h_args.below (B1 _)) (hsp2.below (B1 _))).mono ?_;rintro e w3 ⟨⟨v,rfl,hvn⟩,hb3⟩)
       have hW3:Below wr.heap.size wr w3:=(B1 _).trans (hb3.mono (by simp))
       refine bodyPost_ret (v:=.tuple #[.int .i64 ((k:Int)+1),.bool false]) (by simp [results,Tryz.results100,go_sem]) rfl ⟨⟨(k:Int)+1,by rw [HN.out];rfl,fun i h=>(by rw [HN.out] at h;injection h with h;subst h;simp)⟩,hb2.trans (hW3.mono hb2.size)⟩
      | some nk'=>
       have HN:Hid (shape x=zb1 (zaq [] x.exprs) (x.acts.drop (k+1)) nk' (k+1+1)):=show shape x=_ from by rw [HG2.out,HD.out,zce,hga]
       have hAR:=zbL (fun w h1 h2=>zeI y a_args c_args a_s c_s (zaq [] x.exprs) nk (q:=q) (q':=none) w h1 h2 (by omega) (Nat.le_trans hyy.1 zbf) hyy.2 hnk)
       rw [hga] at hAR
       go_wp2_with (go_at_call 131;refine (hAR.out _ (h_args.below (B1 _)) (hsp2.below (B1 _))).mono ?_;rintro e w3 ⟨⟨v,rfl,hvn⟩,hb3⟩;obtain ⟨rfl,hn60⟩:=hvn nk' rfl)
       have hW3:Below wr.heap.size wr w3:=(B1 _).trans (hb3.mono (by simp))
       go_roundw
       case rel=>exact ⟨k+1,nk',by omega,by go_num,rfl,hn60,HN.out,HBX2.out.below hW3,hsp2.below hW3,hb2.trans (hW3.mono hb2.size)⟩
       case measure=>simp [intOf];omega
     ·have e0:x.acts.drop k=[]:=List.drop_eq_nil_of_le (by omega)
      obtain ⟨q0,q1,q2,q3,q4⟩:=hbox2
      have hkk:k=x.acts.length:=by omega
      have HE:Hid (shape x=if nk=(zaq [] x.exprs).length then none else some (k+1)):=show shape x=_ from by rw [HG2.out,e0];rfl
      go_wp2
      by_cases hfin:nk=(zaq [] x.exprs).length
      ·refine bodyPost_ret (v:=.tuple #[.int .i64 ((x.acts.length:Int)+1),.bool true]) (by simp [results,Tryz.results100,go_sem,hfin]) rfl ⟨⟨_,by rw [HE.out,if_pos hfin];rfl,fun i h=>(by rw [HE.out,if_pos hfin] at h;cases h)⟩,hb2⟩
      ·have hfin':((nk:Int)==((zaq [] x.exprs).length:Int))=false:=by simp;omega
       refine bodyPost_ret (v:=.tuple #[.int .i64 ((x.acts.length:Int)+1),.bool false]) (by simp [results,Tryz.results100,go_sem];omega) rfl ⟨⟨_,by rw [HE.out,if_neg hfin];rfl,fun i h=>(by rw [HE.out,if_neg hfin] at h;injection h with h;subst h;simp;omega)⟩,hb2⟩
   ·have HF:Hid (rest x=some ((zaq [] x.exprs).length+1)):=show rest x=_ from by unfold rest;rw [if_pos (by omega)]
    have hdt:decide ((zaq [] x.exprs).length=x.exprs.length)=false:=decide_eq_false hfull
    have hfl:=zbL hfull
    clear hfull
    go_wp2_with (go_at_call 130;refine (zhB x a_pats c_pats a_exprs c_exprs a_acts c_acts _ (h_exprs.below hb) (by omega) (hse.mono zbf (Ex.mono zbf)) ho).mono ?_;rintro e w1 ⟨⟨a_s,c_s,rfl,hsps⟩,hb1⟩)
    refine bodyPost_ret (v:=.tuple #[.int .i64 (((zaq [] x.exprs).length:Int)+1),.bool false]) (by simp [results,Tryz.results100,go_sem]) rfl ⟨⟨((zaq [] x.exprs).length:Int)+1,by rw [HR.out,HF.out];rfl,fun i h=>(by rw [HR.out,HF.out] at h;injection h with h;subst h;simp)⟩,hb.trans (hb1.mono hb.size)⟩
end Go.Proofs.YtmmdlgjmplddiaaGreat
