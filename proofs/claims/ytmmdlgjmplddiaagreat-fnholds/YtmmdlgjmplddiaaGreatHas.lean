/-
  OUR OWN TEXT. Ic6, Dw13, RdD, Ap1, one behind the other.
-/
import Derived.Test.YtmmdlgjmplddiaaGreatIc4m
import Derived.Test.YtmmdlgjmplddiaaGreatIc4bm
import Derived.Test.YtmmdlgjmplddiaaGreatHaa
import Derived.Test.YtmmdlgjmplddiaaGreatHal
import Derived.Test.YtmmdlgjmplddiaaGreatHan
namespace Go.Proofs.YtmmdlgjmplddiaaGreat
open Go.RowKit
attribute [local go_sem ↓] Go.wp_at_zero Go.wp_at_succ
theorem zbK {p:Prop} (h:p):Hid p:=h
set_option maxHeartbeats 800000 in
theorem zer (e:Ex) (a:Option Addr) (c:Nat) (S:List Sp) {q:Option Nat} (w:World) (hv:zdo q w a S) (hl:S.length≤60) (hs:e.le maxLen) (ho0:0≤e.op) (ho1:e.op<256) (hd:∀ (i:Nat) (s:Sp),S[i]?=some s→s.1≤i∧s.2≤20) :
  Calls Tryz.prog 151 #[.agg #[.int .i64 e.kind,.int .u8 e.op,.string e.var,.int .i64 e.val.kind,.int .i64 e.val.num,.string e.val.sym,.int .i64 e.a,.int .i64 e.b],.slice a S.length c] w fun r w'=>
   (∃ f d:Int,r=.returned (.tuple #[.agg #[.int .i64 f,.int .i64 d],.bool (zaE S e).isSome])∧∀ s,zaE S e=some s→f=(s.1:Int)∧d=(s.2:Int))∧Below w.heap.size w w':=by
 by_cases k0:e.kind=0
 ·have hs0:zaE S e=if zaR e && (isE e.var && gVal e.val) then some (S.length,0) else none:=by simp [zaE,k0]
  refine (zjo e a c S w hs k0).mono ?_
  rintro r w' ⟨rfl,hb⟩
  rw [hs0]
  refine ⟨⟨S.length,0,?_,?_⟩,hb⟩
  ·cases zaR e && (isE e.var && gVal e.val) <;> rfl
  ·intro s h
   split at h
   ·injection h with h
    rw [← h]
    exact ⟨rfl,rfl⟩
   ·cases h
 by_cases k1:e.kind=1
 ·have hs0:zaE S e=if zaR e && (gSym e.var.data.toList && zaZ e.val) then some (S.length,0) else none:=by simp [zaE,k1]
  refine (zjN e a c S w hs k1).mono ?_
  rintro r w' ⟨rfl,hb⟩
  rw [hs0]
  refine ⟨⟨S.length,0,?_,?_⟩,hb⟩
  ·cases zaR e && (gSym e.var.data.toList && zaZ e.val) <;> rfl
  ·intro s h
   split at h
   ·injection h with h
    rw [← h]
    exact ⟨rfl,rfl⟩
   ·cases h
 have B3:∀ o o1 o2,Below w.heap.size w (((w.alloc o).alloc o1).alloc o2):=fun o o1 o2=>(((Below.refl _ _).alloc (Nat.le_refl _) _).alloc (by simp) _).alloc (by simp;omega) _
 by_cases k2:e.kind=2
 ·have hsp:=fun w h=>zeT e a c S (q:=q) w h hl k2 ho0 ho1 hd
  simp only [k2] at hsp
  have HP:=zbK hsp
  clear hsp
  go_enter Tryz.func151,Tryz.ntmps151
  go_wp2_with (go_at_call 168;refine (HP.out _ (hv.below (B3 _ _ _))).mono ?_;rintro e' w' ⟨⟨f,d,rfl,hfd⟩,hb'⟩;have y0:w'.cell? ⟨w.heap.size+1,0,none⟩=some (.int .i64 0):=zaa hb' (by simp [go_sem]);have y1:w'.cell? ⟨w.heap.size+1,1,none⟩=some (.int .i64 0):=zaa hb' (by simp [go_sem]);have yf0:w'.frozen? ⟨w.heap.size+1,0,none⟩=false:=(by rw [(bcell hb').2 _ _ (by simp)];simp [go_sem]);have yf1:w'.frozen? ⟨w.heap.size+1,1,none⟩=false:=(by rw [(bcell hb').2 _ _ (by simp)];simp [go_sem]))
  have hB':Below w.heap.size w w':=(B3 _ _ _).trans (hb'.mono (by simp;omega))
  refine bodyPost_ret (v:=.tuple #[.agg #[.int .i64 f,.int .i64 d],.bool (zaE S e).isSome]) (by simp [results,Tryz.results151,go_sem,y0,y1]) rfl ⟨⟨f,d,rfl,hfd⟩,(hB'.setCell (by simp) _).setCell (by simp) _⟩
 ·have HN:Hid (zaE S e=none):=show zaE S e=none from by simp [zaE,k0,k1,k2]
  go_enter Tryz.func151,Tryz.ntmps151
  go_wp2
  refine bodyPost_ret (v:=.tuple #[.agg #[.int .i64 0,.int .i64 0],.bool false]) (by simp [results,Tryz.results151,go_sem]) rfl ⟨⟨0,0,by rw [HN.out];rfl,fun s h=>(by rw [HN.out] at h;cases h)⟩,B3 _ _ _⟩
def zb5 (s:Sp):List Value:=[.int .i64 (s.1:Int),.int .i64 (s.2:Int)]
theorem zhB:∀ (S:List Sp) (i:Nat) (s:Sp),S[i]?=some s→(S.flatMap zb5)[i * 2]?=some (.int .i64 (s.1:Int))∧(S.flatMap zb5)[i * 2+1]?=some (.int .i64 (s.2:Int))
 | [],i,s,h=>by simp at h
 | x :: r,0,s,h=>by
  simp at h
  subst h
  exact ⟨rfl,rfl⟩
 | x :: r,i+1,s,h=>by
  have:=zhB r i s (by simpa using h)
  rw [List.flatMap_cons]
  refine ⟨?_,?_⟩
  ·rw [List.getElem?_append_right (by simp [zb5];omega),show (i+1) * 2 - (zb5 x).length=i * 2 by simp [zb5];omega]
   exact this.1
  ·rw [List.getElem?_append_right (by simp [zb5];omega),show (i+1) * 2+1 - (zb5 x).length=i * 2+1 by simp [zb5];omega]
   exact this.2
theorem zdo.owns {w:World}{base n:Nat}{a:Option Addr}{c:Nat}{S:List Sp} (h:w.ownsRow base 246 2 (.slice a n c) n (S.flatMap zb5)):zdo none w a S:=by
 intro i s hs
 obtain ⟨k0,k1⟩:=zhB S i s hs
 obtain ⟨g,rfl,_,h0,_⟩:=zam h k0
 obtain ⟨g1,he1,_,h1,_⟩:=zam h k1
 cases he1
 refine ⟨g,0,[.int .i64 (s.1:Int),.int .i64 (s.2:Int)],rfl,Qb.bare _ _ _,rfl,?_,rfl⟩
 intro j v hj
 rw [Nat.zero_add]
 match j,hj with
 | 0,hj=>simp at hj;subst hj;exact h0
 | 1,hj=>simp at hj;subst hj;exact h1
theorem znD:(Tryz.prog.info? 246).map (fun i=>(i.zero,i.size,i.bytes))=some (some (.agg #[.int .i64 0,.int .i64 0]),2,16):=by kernel_rfl
theorem zh1 (w:World) (L:List Value) (t:TypeId) (ad:Addr) (e:some (⟨w.heap.size,0,none⟩:Addr)=some ad) (j:Nat) (u:Value) (h:L[j]?=some u):(w.alloc (.cells L.toArray t)).cell? (ad.add j)=some u:=by
 cases e
 rw [Addr.add_mid,Nat.zero_add]
 have hb:=heap_alloc_new w (.cells L.toArray t)
 simp only [World.cell?,hb]
 simpa using h
theorem zfl (w:World) (L:List Value) (t:TypeId) (b:Nat) (hb:b=w.heap.size) (ad:Addr) (e:some (⟨b,0,none⟩:Addr)=some ad) (j:Nat) (u:Value) (h:L[j]?=some u):(w.alloc (.cells L.toArray t)).cell? (ad.add j)=some u:=by
 subst hb
 exact zh1 w L t ad e j u h
theorem zla {w w':World}{base:Nat}{e:TypeId}{size:Nat}{v:Value}{n:Nat}{xs:List Value} (h:w.ownsRow base e size v n xs) (hb:Below w.heap.size w w'):w'.ownsRow base e size v n xs:=
 zaf h (fun g hg=>hb.block g (h.lt g hg).2)
theorem ziJ (s:Sp):∀ u∈zb5 s,u.oneCell'=true:=by
 intro u hu
 simp [zb5] at hu
 rcases hu with rfl | rfl <;> rfl
def zd0 (es:List Ex):Prop:=∀ e∈es,0≤e.op∧e.op<256
set_option maxHeartbeats 1600000 in
theorem zha (x:Ru) (a_pats:Option Addr) (c_pats:Nat) (a_exprs:Option Addr) (c_exprs:Nat) (a_acts:Option Addr) (c_acts:Nat) {q:Option Nat} (w:World) (h_exprs:za8 q w a_exprs x.exprs) (hl:x.exprs.length≤60) (hs:zbs Ex.le maxLen x.exprs) (ho:zd0 x.exprs) :
  Calls Tryz.prog 130 #[.agg #[.string x.name,.int .i64 x.sal,.slice a_pats x.pats.length c_pats,.slice a_exprs x.exprs.length c_exprs,.slice a_acts x.acts.length c_acts]] w fun e w'=>
   (∃ a c,e=.returned (.tuple #[.slice a (zas [] x.exprs).length c,.bool (decide ((zas [] x.exprs).length=x.exprs.length))])∧zdo none w' a (zas [] x.exprs))∧Below w.heap.size w w':=by
 go_enter Tryz.func130,Tryz.ntmps130
 go_wp2
 go_loopw [4,12] (fun v i wr=>∃ (S:List Sp) (a:Option Addr) (c:Nat),S.length≤x.exprs.length∧i=.int .i64 (S.length:Int)∧v=.slice a S.length c∧Spans x.exprs S∧zas [] x.exprs=zas S (x.exprs.drop S.length)∧wr.ownsRow w.heap.size 246 2 (.slice a S.length c) S.length (S.flatMap zb5)∧Below w.heap.size w wr) (fun _ i _=>x.exprs.length - (intOf i).toNat)
 case atStart=>exact ⟨[],none,0,by simp,rfl,rfl,Spans.nil _,rfl,World.ownsRow_nil _ _ _ _,(Below.refl _ _).alloc (Nat.le_refl _) _⟩
 case round=>
  obtain ⟨S,a,c,hk,rfl,rfl,hS,hG,hown,hb⟩:=hrel
  have HG:Hid (zas [] x.exprs=zas S (x.exprs.drop S.length)):=hG
  have HO:=zbK hown
  clear hG hown
  by_cases hkl:S.length<x.exprs.length
  ·obtain ⟨e,hek⟩:∃ e,x.exprs[S.length]?=some e:=⟨x.exprs[S.length],by simp [hkl]⟩
   obtain ⟨b,o,rfl,hq,c0,c1,c2,c3,c4,c5,c6,c7⟩:=(h_exprs.below hb).get hek
   have HD:Hid (x.exprs.drop S.length=e :: x.exprs.drop (S.length+1)):=zan hek
   have hse:=hs.2 e (List.mem_of_getElem? hek)
   obtain ⟨ho0,ho1⟩:=ho e (List.mem_of_getElem? hek)
   have hd:Hid (∀ (i:Nat) (s:Sp),S[i]?=some s→s.1≤i∧s.2≤20):=show ∀ (i:Nat) (s:Sp),S[i]?=some s→s.1≤i∧s.2≤20 from fun i s h=>⟨hS.first_le i s h,hS.depth_le i s h⟩
   have HS:=zbK hS
   clear hS
   have B1:∀ o,Below wr.heap.size wr (wr.alloc o):=fun o=>(Below.refl _ _).alloc (Nat.le_refl _) _
   cases hsp:zaE S e with
   | none=>
    have HN:Hid (zas [] x.exprs=S):=show zas [] x.exprs=S from by rw [HG.out,HD.out,zas,hsp]
    go_wp2_with (go_at_call 151;refine (zer e a c S _ ((zdo.owns HO.out).below (B1 _)) (by omega) hse ho0 ho1 hd.out).mono ?_;rintro e' w1 ⟨⟨f,d,rfl,hfd⟩,hb1⟩)
    have hW1:Below wr.heap.size wr w1:=(B1 _).trans (hb1.mono (by simp))
    have hW2:Below w.heap.size w w1:=hb.trans (hW1.mono hb.size)
    refine bodyPost_ret (v:=.tuple #[.slice a S.length c,.bool false]) (by simp [results,Tryz.results130,go_sem]) rfl ⟨⟨a,c,by rw [HN.out,decide_eq_false (by omega)],?_⟩,hW2.alloc hW2.size _⟩
    rw [HN.out]
    exact ((zdo.owns HO.out).below hW1).below ((Below.refl _ _).alloc (Nat.le_refl _) _)
   | some s=>
    have HN:Hid (zas [] x.exprs=zas (S ++ [s]) (x.exprs.drop (S.length+1))):=show zas [] x.exprs=_ from by rw [HG.out,HD.out,zas,hsp]
    go_wp2_with (first | (go_at_call 151;refine (zer e a c S _ ((zdo.owns HO.out).below (B1 _)) (by omega) hse ho0 ho1 hd.out).mono ?_;rintro e' w1 ⟨⟨f,d,rfl,hfd⟩,hb1⟩;obtain ⟨rfl,rfl⟩:=hfd s hsp;have hW1:Below wr.heap.size wr w1:=(B1 _).trans (hb1.mono (by simp));have ho1:=zbK (zla HO.out hW1)) | (at_builtin;refine zae (by rfl) (.tmp 25) (.tmp 27) 221 (by rfl) w.heap.size 246 _ 2 16 Tryz.underlying221 znD (by rfl) (by omega) _ S.length _ (by rfl) ((ho1.out.alloc _).alloc _) (some ⟨w1.heap.size+1,0,none⟩) 1 1 (by rfl) (zb5 s) (by rfl) (fun e=>by cases e) (zfl _ _ _ _ (by simp)) (ziJ s) (by unfold maxLen;omega) (by omega) (by have h1:=hb.size;have h2:=hW1.size;simp;omega) ?_;intro a2 c2' w2 ho2 hg2 hl2))
    have hW2:Below w.heap.size w w1:=hb.trans (hW1.mono hb.size)
    have hsz:=hW2.size
    go_roundw
    case rel=>
     refine ⟨S ++ [s],a2,c2',by simp;omega,by simp,by simp,HS.out.snoc hek hsp,?_,?_,?_⟩
     ·rw [HN.out]
      simp
     ·have:=ho2.out
      rw [List.flatMap_append]
      simpa [zb5] using this
     ·exact ((hW2.alloc hsz _).alloc (by simp;omega) _).grown hg2.out (by simp;omega) (fun j hj=>(ho1.out.lt j hj).1)
    case measure=>simp [intOf];omega
  ·go_wp2
   have HN:Hid (zas [] x.exprs=S):=show zas [] x.exprs=S from by
    rw [HG.out,List.drop_eq_nil_of_le (by omega)]
    rfl
   refine bodyPost_ret (v:=.tuple #[.slice a S.length c,.bool true]) (by simp [results,Tryz.results130,go_sem]) rfl ⟨⟨a,c,by rw [HN.out,decide_eq_true (by omega)],?_⟩,hb⟩
   rw [HN.out]
   exact zdo.owns HO.out
end Go.Proofs.YtmmdlgjmplddiaaGreat
namespace Go.Proofs.YtmmdlgjmplddiaaGreat
open Go.RowKit
attribute [local go_sem ↓] Go.wp_at_zero Go.wp_at_succ
theorem zd2 {α β:Type}{R:World→List Value→β→Prop}{cells:α→List Value}{f:α→β}{m:Nat} (hm:∀ x,(cells x).length=m) (h0:0<m) {w:World}{base:Nat}{t:TypeId}{a:Option Addr}{n c:Nat}{L:List α} (h:w.ownsRow base t m (.slice a n c) n (L.flatMap cells)) (hR:∀ x∈L,R w (cells x) (f x)):zaJ R none t m w a (L.map f):=by
 intro i y hy
 rw [List.getElem?_map] at hy
 obtain ⟨x,hx,rfl⟩:=Option.map_eq_some_iff.1 hy
 have key:=fun j u (hj:(cells x)[j]?=some u)=>zam h (zbe (cells:=cells) (m:=m) hm L i x j u hx hj)
 obtain ⟨k,rfl,_⟩:=key 0 ((cells x)[0]'(by rw [hm];exact h0)) (by simp)
 refine ⟨k,0,cells x,rfl,Qb.bare _ _ _,hm x,fun j v hj=>?_,hR x (List.mem_of_getElem? hx)⟩
 obtain ⟨k',e,_,hc,_⟩:=key j v hj
 cases e
 rw [Nat.zero_add]
 exact hc
theorem PO.pts {w:World}{base:Nat}{a:Option Addr}{c:Nat}{L:List PtV} (h:PO w base a c L):zbY none w a (L.map Prod.fst):=by
 refine zd2 (cells:=pcells) (fun _=>rfl) (by decide) h.1 (fun x hx=>?_)
 obtain ⟨⟨ta,tc,e⟩,ho,_⟩:=h.2 x hx
 rw [e] at ho
 have ht:zch none w ta x.1.terms:=by
  have:=zd2 (R:=Tm.R) (cells:=za4) (f:=id) (fun _=>rfl) (by decide) ho (fun _ _=>rfl)
  simpa using this
 exact ⟨ta,tc,by rw [pcells,e],ht,zdD ho⟩
theorem AcO.acs {w:World}{base:Nat}{a:Option Addr}{c:Nat}{Y:List AcV} (h:AcO w base a c Y):zcu none w a (Y.map Prod.fst):=by
 refine zd2 (cells:=acells) (fun _=>rfl) (by decide) h.1 (fun x hx=>?_)
 obtain ⟨⟨ta,tc,e⟩,ho⟩:=h.2 x hx
 rw [e] at ho
 exact ⟨ta,tc,by rw [acells,e],zaU.owns ho⟩
theorem RO.rus {w:World}{base:Nat}{a:Option Addr}{c:Nat}{M:List RuX} (h:RO w base a c M):zcy none w a (M.map RuX.ru):=by
 refine zd2 (cells:=rcells) (fun _=>rfl) (by decide) h.1 (fun x hx=>?_)
 obtain ⟨⟨pa,pc,e1,h1⟩,⟨ea,ec,e2,h2,_⟩,aa,ac,e3,h3⟩:=h.2 x hx
 have he:za8 none w ea x.es:=by
  have:=zd2 (R:=Ex.R) (cells:=zbb) (f:=id) (fun _=>rfl) (by decide) h2 (fun _ _=>rfl)
  simpa using this
 exact ⟨pa,pc,ea,ec,aa,ac,by unfold rcells;rw [e1,e2,e3];simp [RuX.ru],h1.pts,he,h3.acs,zdD h2⟩
theorem RO.cap {w:World}{base:Nat}{a:Option Addr}{c:Nat}{M:List RuX} (h:RO w base a c M):M.length≤c:=zdD h.1
theorem zjX {s:ByteArray} (h:gSym s.data.toList=true):s.size≤1048576:=by
 simp only [gSym,Bool.and_eq_true,decide_eq_true_eq] at h
 have:s.data.toList.length=s.size:=Array.length_toList
 omega
theorem zfe {s:ByteArray} (h:isE s=true):s.size≤1048576:=by
 rw [zeW h]
 exact Nat.zero_le _
theorem zly {a:Ac} (h:zaz a=true):a.cls.size≤1048576:=by
 unfold zaz at h
 split at h
 ·simp only [gCls,Bool.and_eq_true] at h
  exact zjX h.1.1
 ·split at h
  ·simp only [Bool.and_eq_true] at h
   exact zfe h.1.1
  ·split at h
   ·simp only [Bool.and_eq_true] at h
    exact zfe h.1
   ·split at h
    ·simp only [Bool.and_eq_true] at h
     exact zfe h.1
    ·cases h
theorem zcN.le {K:List ByteArray}{pos:Nat}:∀ {us:List Ac}{n:Nat}{ys:List Ex},zcN K pos n ys us→∀ a∈us,Ac.le 1048576 a
 | [],n,ys,h=>by simp
 | x :: r,n,ys,h=>by
  obtain ⟨A,C,rfl,hA,hx,hC⟩:=h
  intro a ha
  rcases List.mem_cons.1 ha with rfl | ha
  ·exact ⟨zly hx.1,by omega⟩
  ·exact zcN.le hC a ha
structure RsOk (rs:List Ru):Prop where
 len:1≤rs.length∧rs.length≤8
 chk:chk rs=(0,0,0)
 le:zbs Ru.le 1048576 rs
 ops:∀ x∈rs,zd0 x.exprs
 vok:∀ r∈rs,∀ p∈r.pats,∀ t∈p.terms,VOk t.val
 sal:∀ r∈rs,-9223372036854775808≤r.sal∧r.sal≤9223372036854775807
theorem zmL {v:V} (h:VSm v):VOk v:=by
 obtain ⟨h1,⟨h2,h3⟩,h4,h5,_⟩:=h
 exact ⟨zcB h2 h3,zcB h4 h5,by unfold maxLen;omega⟩
theorem zoj {w:World}{base:Nat}{a:Option Addr}{c:Nat}{M:List RuX} (h:RO w base a c M) (hM:MOk M) (h1:1≤M.length) (h8:M.length≤8):RsOk (M.map RuX.ru):=by
 have hpt:∀ x∈M,∀ y∈x.pats,PtX w base y:=fun x hx y hy=>by
  obtain ⟨⟨pa,pc,e1,h1⟩,_⟩:=h.2 x hx
  exact h1.2 y hy
 have hex:∀ x∈M,∀ e∈x.es,ExSm e:=fun x hx=>by
  obtain ⟨_,⟨_,_,_,_,h3⟩,_⟩:=h.2 x hx
  exact h3
 have hd:∀ x∈M,∃ k,DRu k x.ru:=fun x hx=>by
  obtain ⟨i,hi⟩:=List.mem_iff_getElem?.1 hx
  exact ⟨i,(hM i x hi).1⟩
 refine ⟨by simpa using And.intro h1 h8,zks (fun i r hr=>?_) (by simp;omega),⟨by simp;omega,fun r hr=>?_⟩,fun r hr e he=>?_,fun r hr p hp t ht=>?_,fun r hr=>?_⟩
 ·rw [List.getElem?_map] at hr
  obtain ⟨x,hx,rfl⟩:=Option.map_eq_some_iff.1 hr
  exact (hM i x hx).1
 ·obtain ⟨x,hx,rfl⟩:=List.mem_map.1 hr
  obtain ⟨k,hn,K,pos,hdr⟩:=hd x hx
  refine ⟨?_,⟨by have:=hdr.pats;omega,fun p hp=>?_⟩,⟨by have:=hdr.exprs;omega,fun e he=>?_⟩,by have:=hdr.acts;omega,fun a ha=>?_⟩
  ·rw [hn]
   exact Nat.le_trans (show (nmK k).size≤2 from Nat.le_refl 2) (by decide)
  ·obtain ⟨y,hy,rfl⟩:=List.mem_map.1 hp
   obtain ⟨_,_,hc,ht3,hts⟩:=hpt x hx y hy
   exact ⟨by have:=hc.1;omega,by omega,fun t ht=>⟨by have:=(hts t ht).1;omega,by have:=(hts t ht).2.1.1;omega⟩⟩
  ·have:=hex x hx e he
   exact ⟨by have:=this.1;omega,by have:=this.2.1.1;omega⟩
  ·exact hdr.trees.le a ha
 ·obtain ⟨x,hx,rfl⟩:=List.mem_map.1 hr
  exact ⟨(hex x hx e he).2.2.1,(hex x hx e he).2.2.2⟩
 ·obtain ⟨x,hx,rfl⟩:=List.mem_map.1 hr
  obtain ⟨y,hy,rfl⟩:=List.mem_map.1 hp
  obtain ⟨_,_,_,_,hts⟩:=hpt x hx y hy
  exact zmL (hts t ht).2.1
 ·obtain ⟨x,hx,rfl⟩:=List.mem_map.1 hr
  obtain ⟨i,hi⟩:=List.mem_iff_getElem?.1 hx
  exact (hM i x hi).2
structure FsOk (most:Nat) (fs:List F):Prop where
 len:fs.length≤most
 good:zaS fs=true
 sized:∀ f∈fs,Sized f
 read:∀ f∈fs,(Lit.int .i64 f.tag).wf=true∧∀ v∈f.slots,VOk v
theorem ze5:∀ {fs:List F}{last:Int},zbm last fs=true→∀ f∈fs,last<f.tag∧f.tag≤1000000
 | [],_,_,f,hf=>by simp at hf
 | g :: r,last,h,f,hf=>by
  simp only [zbm,okF,Bool.and_eq_true,decide_eq_true_eq] at h
  rcases List.mem_cons.1 hf with rfl | hf
  ·exact ⟨h.1.1,h.1.2.1⟩
  ·have:=ze5 h.2 f hf
   exact ⟨by omega,this.2⟩
theorem zoa {most:Nat}{fs:List F} (hl:fs.length≤most) (hm:most≤12) (hg:zbm 0 fs=true) (hf:FOk fs):FsOk most fs:=by
 refine ⟨hl,?_,zg6 hf,fun f h=>⟨?_,fun v hv=>zmL ((hf f h).2.2 v hv)⟩⟩
 ·simp only [zaS,Bool.and_eq_true,decide_eq_true_eq]
  exact ⟨by omega,hg⟩
 ·have:=ze5 hg f h
  exact zcB (by omega) (by omega)
def ByA (w:World) (a:Option Addr) (n:Nat):Prop:=∀ j,j<n→∃ (b o:Nat) (u:Nat),a=some ⟨b,o,none⟩∧b<w.heap.size∧u<256∧w.cell? ⟨b,o+j,none⟩=some (.int .u8 (u:Int))
theorem ByA.below {w w':World}{a:Option Addr}{n:Nat} (h:ByA w a n) (hb:Below w.heap.size w w'):ByA w' a n:=fun j hj=>by
 obtain ⟨b,o,u,e1,e2,e3,e4⟩:=h j hj
 exact ⟨b,o,u,e1,Nat.lt_of_lt_of_le e2 hb.size,e3,zaa hb e4⟩
theorem ByA.rdr {w:World}{a:Option Addr}{n c g:Nat} (h:ByA w a n) (hn:n≤1048576) (hg:w.heap.size=g):Rdr (w.alloc (.cells #[.slice a n c,.int .i64 0] 64)) g:=by
 subst hg
 refine ⟨a,n,c,0,heap_alloc_new _ _,Nat.zero_le _,hn,fun j hj=>?_⟩
 obtain ⟨b,o,u,e1,e2,e3,e4⟩:=h j hj
 exact ⟨b,o,u,e1,e2,e3,zaa ((Below.refl _ _).alloc (Nat.le_refl _) _) e4⟩
theorem zhN {v:World}{d:Nat}{x0 x1 x2 x3:Value} (k:Nat) (hk:k≠d):((((v.setCell ⟨d,0,none⟩ x0).setCell ⟨d,1,none⟩ x1).setCell ⟨d,2,none⟩ x2).setCell ⟨d,3,none⟩ x3).heap[k]?=v.heap[k]?:=by
 have e1:∀ (u:World) (j:Nat) (x:Value),(u.setCell ⟨d,j,none⟩ x).heap[k]?=u.heap[k]?:=fun u j x=>Below.heap_setCell _ _ _ _ hk
 rw [e1,e1,e1,e1]
set_option maxRecDepth 100000 in
set_option maxHeartbeats 1600000 in
theorem zgB (a:Option Addr) (n c most:Nat) (w:World) (h:ByA w a n) (hn:n≤1048576) (hm:most≤12):Calls Tryz.prog 6 #[.slice a n c,.int .i64 (most:Int)] w fun e w'=>∃ ra rc rs fa fc fs nx cp sg,e=.returned (.tuple #[.slice ra (List.length rs) rc,stV fa (List.length fs) fc nx cp sg])∧RsOk rs∧FsOk most fs∧zcy none w' ra rs∧rs.length≤rc∧zaG w' fa fs∧fs.length≤fc∧Below w.heap.size w w':=by
 have HB:=hidR h
 clear h
 have HA:=hidR (fun o=>(Below.refl _ _).alloc (Nat.le_refl _) o:∀ o,Below w.heap.size w (w.alloc o))
 have RD:=hidR (fun o=>(HB.out.below (HA.out o)).rdr (c:=c) hn (g:=w.heap.size+1) (by simp))
 go_enter Tryz.func6,Tryz.ntmps6
 go_wp2_with fail
 refine (zh9 (w.heap.size+1) most _ (RD.out _) hm).mono ?_
 rintro e w1 ⟨ra,rc,M,fa,fc,fs,nx,cp,sg,rfl,⟨hM1,hM8,hMK⟩,hRO,⟨hFA,hfc,hgf,hfl,hfk⟩,hr1⟩
 have S1:=hidR (show TB w1 w.heap.size none 0 0 0 0 false from zaC hr1 ((Below.heap_alloc _ _ _ (by simp)).trans (heap_alloc_new _ _)) (by omega))
 have MO1:=hidR (hRO.lower (base':=w.heap.size) (by simp;omega))
 have FA1:=hidR hFA
 have HK:=hidR (And.intro (zoj hRO hMK hM1 hM8) (zoa hfl hm hgf hfk))
 have B1:=hidR (show Below w.heap.size w w1 from (((HA.out _).alloc (by simp) _).trans (hr1.1.below (by simp;omega) (fun g hg=>by injection hg with hg;omega))))
 clear hRO hr1 HA RD HB hFA hMK hgf hfk
 obtain ⟨⟨f0,f1,f2,f3⟩,z,hb1⟩:=S1.out.facts
 have z0:=z 0
 have z1:=z 1
 have z2:=z 2
 have z3:=z 3
 clear z
 unfold stV
 go_wp2_with fail
 refine bodyPost_ret (v:=.tuple #[.slice ra M.length rc,stV fa fs.length fc nx cp sg]) (by simp [results,Tryz.results6,go_sem,f0,f1,f2,f3,stV]) rfl ⟨ra,rc,M.map RuX.ru,fa,fc,fs,nx,cp,sg,by simp,HK.out.1,HK.out.2,?_,by simpa using MO1.out.cap,?_,hfc,?_⟩
 ·exact (MO1.out.same (Same.kept (d:=w.heap.size) (fun k hk _=>zhN k hk) S1.out (by decide))).rus
 ·exact FA1.out.far S1.out (zi3 _ _ _ _ _ _) (fun k hk _=>zhN k hk)
 ·exact (((B1.out.setCell (Nat.le_refl _) _).setCell (Nat.le_refl _) _).setCell (Nat.le_refl _) _).setCell (Nat.le_refl _) _
end Go.Proofs.YtmmdlgjmplddiaaGreat
namespace Go.Proofs.YtmmdlgjmplddiaaGreat
open Go.RowKit Go.Deep
theorem zmd:Tryz.prog.cellsOf 5=1:=by kernel_rfl
theorem zoc {a:Int} (h:(Lit.int .u8 a).wf=true):0≤a∧a<256:=by
 have h0:IntKind.u8.min=0:=rfl
 have h1:IntKind.u8.max=255:=rfl
 simp [Lit.wf] at h
 omega
section
variable {H : Type} {enc : TypeId × Value → H} {w : World} {base : Nat} {spare : Nat → Bool} {held : Bool}
theorem zlK {n:Nat}{cs:List Value}{x:DataW H × List MemPlace} (h:DataW.trod enc Tryz.prog w base spare held n 22 cs=some x):∃ a k c,cs=[.slice a k c]∧ByA w a k:=by
 obtain ⟨a,c,vs,e,hR,_,_,hu⟩:=zmU (R:=fun _ r (u:Nat)=>r=[.int .u8 (u:Int)]) (Ok:=fun u=>u<256) (0:Nat) 22 5 5 1 Tryz.underlying22 zmd (by omega) (fun n cs x h hc=>by
  match cs,hc with
  | [v0],_=>
   obtain ⟨k,e0,_,wf0⟩:=DataW.trod_int Tryz.underlying5 h
   obtain ⟨h1,h2⟩:=zoc wf0
   refine ⟨k.toNat,?_,by omega⟩
   rw [e0,Int.toNat_of_nonneg h1]) h
 refine ⟨a,vs.length,c,e,fun j hj=>?_⟩
 obtain ⟨b,o,r,e1,_,_,hc,hr⟩:=hR j vs[j] (by simp [hj])
 have h0:=hc 0 _ (by rw [hr];rfl)
 refine ⟨b,o,vs[j],e1,?_,hu _ (List.getElem_mem hj),?_⟩
 ·exact World.block_lt_of_cell? w ⟨b,_,none⟩ h0
 ·simpa using h0
end
end Go.Proofs.YtmmdlgjmplddiaaGreat
namespace Go.Proofs.YtmmdlgjmplddiaaGreat
open Go.RowKit
theorem hidA {p:Prop} (h:p):Hid p:=h
def eqV (v o:V):Bool:=v.kind==o.kind && (v.num==o.num && decide (v.sym.toList=o.sym.toList))
def numV (v o:V):Bool:=v.kind==0 && o.kind==0
def meets (op:Int) (v o:V):Bool:=
 if op==1 then eqV v o
 else if op==2 then !eqV v o
 else if op==3 then numV v o && decide (v.num<o.num)
 else if op==4 then numV v o && decide (o.num<v.num)
 else if op==5 then numV v o && decide (v.num≤o.num)
 else if op==6 then numV v o && decide (o.num≤v.num)
 else false
set_option maxHeartbeats 3200000 in
theorem ze6 (v o:V) (op:Int) (w:World) :
  Calls Tryz.prog 97 #[.agg #[.int .i64 v.kind,.int .i64 v.num,.string v.sym],.int .i64 op,.agg #[.int .i64 o.kind,.int .i64 o.num,.string o.sym]] w fun e w'=>
   e=.returned (.bool (meets op v o))∧Below w.heap.size w w':=by
 have B2:∀ o o1,Below w.heap.size w ((w.alloc o).alloc o1):=fun o o1=>((Below.refl _ _).alloc (Nat.le_refl _) _).alloc (by simp) _
 by_cases h1:op=1
 ·subst h1
  cases k1:(v.kind==0) <;> cases k2:(o.kind==0)
  all_goals
   go_enter Tryz.func97,Tryz.ntmps97
   go_wp2
  all_goals go_ret
  all_goals exact ⟨zac (by simp [meets,eqV, *]),B2 _ _⟩
 by_cases h2:op=2
 ·subst h2
  cases k1:(v.kind==0) <;> cases k2:(o.kind==0)
  all_goals
   go_enter Tryz.func97,Tryz.ntmps97
   go_wp2
  all_goals go_ret
  all_goals exact ⟨zac (by simp [meets,eqV, *]),B2 _ _⟩
 by_cases h3:op=3
 ·subst h3
  cases k1:(v.kind==0) <;> cases k2:(o.kind==0)
  all_goals
   go_enter Tryz.func97,Tryz.ntmps97
   go_wp2
  all_goals go_ret
  all_goals exact ⟨zac (by simp [meets,numV, *]),B2 _ _⟩
 by_cases h4:op=4
 ·subst h4
  cases k1:(v.kind==0) <;> cases k2:(o.kind==0)
  all_goals
   go_enter Tryz.func97,Tryz.ntmps97
   go_wp2
  all_goals go_ret
  all_goals exact ⟨zac (by simp [meets,numV, *]),B2 _ _⟩
 by_cases h5:op=5
 ·subst h5
  cases k1:(v.kind==0) <;> cases k2:(o.kind==0)
  all_goals
   go_enter Tryz.func97,Tryz.ntmps97
   go_wp2
  all_goals go_ret
  all_goals exact ⟨zac (by simp [meets,numV, *]),B2 _ _⟩
 by_cases h6:op=6
 ·subst h6
  cases k1:(v.kind==0) <;> cases k2:(o.kind==0)
  all_goals
   go_enter Tryz.func97,Tryz.ntmps97
   go_wp2
  all_goals go_ret
  all_goals exact ⟨zac (by simp [meets,numV, *]),B2 _ _⟩
 cases k1:(v.kind==0) <;> cases k2:(o.kind==0)
 all_goals
  go_enter Tryz.func97,Tryz.ntmps97
  go_wp2
 all_goals go_ret
 all_goals exact ⟨zac (by simp [meets, *]),B2 _ _⟩
end Go.Proofs.YtmmdlgjmplddiaaGreat
