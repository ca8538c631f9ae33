/-
  OUR OWN TEXT. Fh2, Ga2, one behind the other.
-/
import Derived.Test.YtmmdlgjmplddiaaGreatKca
import Derived.Test.YtmmdlgjmplddiaaGreatKcb
import Derived.Test.YtmmdlgjmplddiaaGreatKcc
import Derived.Test.YtmmdlgjmplddiaaGreatKbz
import Derived.Test.YtmmdlgjmplddiaaGreatKbu
import Derived.Test.YtmmdlgjmplddiaaGreatHwm
namespace Go.Proofs.YtmmdlgjmplddiaaGreat
open Go.RowKit
attribute [local go_sem ↓] Go.wp_at_zero Go.wp_at_succ
theorem hidH {p:Prop} (h:p):Hid p:=h
theorem zor {xs ys:List Int}{i:Nat}{x y:Int} (hx:xs[i]?=some x) (hy:ys[i]?=some y) (hne:x≠y):xs≠ys:=fun e=>by
 subst e
 rw [hx] at hy
 injection hy with hy
 exact hne hy
set_option maxHeartbeats 1600000 in
theorem zh1 (xs ys:List Int) (a b:Option Addr) (ca cb:Nat) (w:World) (hx:zas none w a xs) (hy:zas none w b ys) (hl:xs.length≤1048576):Calls Tryz.prog 26 #[.slice a xs.length ca,.slice b ys.length cb] w fun e w'=>e=.returned (.bool (decide (xs=ys)))∧Below w.heap.size w w':=by
 by_cases hll:xs.length=ys.length
 rotate_left
 ·have hI:((xs.length:Int)==(ys.length:Int))=false:=by simp;omega
  have hne:decide (xs=ys)=false:=decide_eq_false fun e=>hll (by rw [e])
  rw [hne]
  clear hx hy
  go_enter Tryz.func26,Tryz.ntmps26
  go_wp2_with fail
  go_ret
  exact ⟨rfl,Below.refl _ _⟩
 have HX:=hidH hx
 have HY:=hidH hy
 clear hx hy
 have hI:((xs.length:Int)==(ys.length:Int))=true:=by simp;omega
 go_enter Tryz.func26,Tryz.ntmps26
 go_wp2_with fail
 go_loopw [13] (fun iv wr=>∃ i:Nat,iv=.int .i64 (i:Int)∧i≤xs.length∧xs.take i=ys.take i∧Below w.heap.size w wr) (fun iv _=>((xs.length:Int) - intOf iv).toNat)
 case atStart=>exact ⟨0,rfl,by omega,by simp,Below.refl _ _⟩
 case round=>
  obtain ⟨i,rfl,hil,hpre,hb⟩:=hrel
  have HP:=hidH hpre
  have HB:=hidH hb
  clear hpre hb
  by_cases hi:i<xs.length
  ·have hiI:(i:Int)<(xs.length:Int):=by omega
   have hiJ:(i:Int)<(ys.length:Int):=by omega
   have hi0:(0:Int)≤(i:Int):=by omega
   obtain ⟨x,hx⟩:∃ x,xs[i]?=some x:=⟨xs[i],by simp [hi]⟩
   obtain ⟨y,hy⟩:∃ y,ys[i]?=some y:=⟨ys[i]'(by omega),by simp⟩
   obtain ⟨xb,xo,rfl,_,c0⟩:=(HX.out.below HB.out).get hx
   obtain ⟨yb,yo,rfl,_,c1⟩:=(HY.out.below HB.out).get hy
   have hxy:=hidH (And.intro hx hy)
   clear hx hy
   cases he:(x==y)
   ·go_wp2_with fail
    go_region
    go_wp2_with fail
    go_ret
    refine ⟨?_,HB.out.drew⟩
    have:xs≠ys:=zor hxy.out.1 hxy.out.2 (by simpa using he)
    simp [this]
   ·go_wp2_with fail
    go_region
    go_wp2_with fail
    go_roundw
    case rel=>
     have e:x=y:=by simpa using he
     exact ⟨i+1,by go_num,by omega,by rw [List.take_add_one,List.take_add_one,hxy.out.1,hxy.out.2,HP.out,e],HB.out.drew⟩
    case measure=>(simp [intOf];omega)
  ·have hiI:¬ (i:Int)<(xs.length:Int):=by omega
   go_wp2_with fail
   go_ret
   refine ⟨?_,HB.out⟩
   have h1:xs=ys:=by
    have:=HP.out
    rwa [List.take_of_length_le (by omega),List.take_of_length_le (by omega)] at this
   simp [h1]
set_option maxHeartbeats 800000 in
theorem zhQ (x y:It) (a b:Option Addr) (ca cb:Nat) (w:World) (hx:zas none w a x.tags) (hy:zas none w b y.tags) (hl:x.tags.length≤1048576):Calls Tryz.prog 9 #[.agg #[.int .i64 x.rule,.slice a x.tags.length ca],.agg #[.int .i64 y.rule,.slice b y.tags.length cb]] w fun e w'=>e=.returned (.bool (decide (x.rule=y.rule∧x.tags=y.tags)))∧Below w.heap.size w w':=by
 have HX:=hidH hx
 have HY:=hidH hy
 clear hx hy
 have HA:=hidH (fun o o'=>((Below.refl _ _).alloc (Nat.le_refl _) o).alloc (by simp) o':∀ o o',Below w.heap.size w ((w.alloc o).alloc o'))
 cases hr:(x.rule==y.rule)
 ·have e:decide (x.rule=y.rule∧x.tags=y.tags)=false:=decide_eq_false fun h=>by simp [h.1] at hr
  rw [e]
  go_enter Tryz.func9,Tryz.ntmps9
  go_wp2_with fail
  go_ret
  exact ⟨rfl,HA.out _ _⟩
 ·have e0:x.rule=y.rule:=by simpa using hr
  have e:decide (x.rule=y.rule∧x.tags=y.tags)=decide (x.tags=y.tags):=by simp [e0]
  rw [e]
  clear e e0
  go_enter Tryz.func9,Tryz.ntmps9
  go_wp2_with fail
  refine (zh1 x.tags y.tags a b ca cb _ (HX.out.below (HA.out _ _)) (HY.out.below (HA.out _ _)) hl).mono ?_
  rintro e w1 ⟨rfl,hb1⟩
  have B1:=hidH ((HA.out _ _).trans (hb1.mono (by simp;omega)))
  clear hb1
  go_wp2_with fail
  go_ret
  exact ⟨rfl,B1.out⟩
end Go.Proofs.YtmmdlgjmplddiaaGreat
namespace Go.Proofs.YtmmdlgjmplddiaaGreat
open Go.RowKit
attribute [local go_sem ↓] Go.wp_at_zero Go.wp_at_succ
theorem zjZ {w:World}{b o:Nat}{v:Value} (h:w.cell? ⟨b,o,none⟩=some v):b<w.heap.size:=World.block_lt_of_cell? w ⟨b,o,none⟩ h
theorem cells2G {w:World}{b:Nat}{ty:TypeId}{x0 x1:Value} (h:w.heap[b]?=some (.cells #[x0,x1] ty (0,0))):w.cell? ⟨b,0,none⟩=some x0∧w.cell? ⟨b,1,none⟩=some x1:=by
 refine ⟨?_,?_⟩ <;> simp [World.cell?,h]
def hasI (x:It) (L:List It):Bool:=L.any (fun y=>decide (x.rule=y.rule∧x.tags=y.tags))
set_option maxHeartbeats 1600000 in
theorem zjd (L:List It) (x:It) (la xa:Option Addr) (lc xc:Nat) (w:World) (hL:zjb w la L) (hx:zas none w xa x.tags) (hl:L.length≤1048576) (hxl:x.tags.length≤1048576) (hh:hasI x L=true):Calls Tryz.prog 17 #[.slice la L.length lc,.agg #[.int .i64 x.rule,.slice xa x.tags.length xc]] w fun e w'=>e=.returned (.bool true)∧Below w.heap.size w w':=by
 have HL:=hidH hL
 have HX:=hidH hx
 clear hL hx
 go_enter Tryz.func17,Tryz.ntmps17
 go_upto_region 1 with fail
 refine zaj ?_
 intro w1 hW1 hxb
 have XB:=hidH (cells2G hxb)
 have B1:=hidH hW1
 have hs1:=hW1.size
 have hxbl:w.heap.size<w1.heap.size:=zab hxb
 clear hW1 hxb
 go_wp2_with fail
 go_loopw [9] (fun iv wr=>∃ i:Nat,iv=.int .i64 (i:Int)∧i≤L.length∧hasI x (L.take i)=false∧Below w1.heap.size w1 wr) (fun iv _=>((L.length:Int) - intOf iv).toNat)
 case atStart=>exact ⟨0,rfl,by omega,rfl,Below.refl _ _⟩
 case round=>
  obtain ⟨i,rfl,hiL,hno,hb⟩:=hrel
  have HN:=hidH hno
  have BR:=hidH hb
  have hsr:=hb.size
  clear hno hb
  by_cases hi:i<L.length
  ·have hiI:(i:Int)<(L.length:Int):=by omega
   have hi0:(0:Int)≤(i:Int):=by omega
   obtain ⟨y,hy⟩:∃ y,L[i]?=some y:=⟨L[i],by simp [hi]⟩
   have HS:=hidH (show hasI x (L.take (i+1))=(hasI x (L.take i) || decide (x.rule=y.rule∧x.tags=y.tags)) by unfold hasI;rw [List.take_add_one,hy,List.any_append];simp)
   obtain ⟨lb,lo,ga,gc,rfl,c0,c1,gi⟩:=(HL.out.below (B1.out.trans (BR.out.mono hs1))) i y hy
   have hlbl:=zjZ c0
   have GI:=hidH gi
   clear hy gi
   go_upto_region 4 with fail
   refine zaj ?_
   intro w2 hW2 hyb
   have YB:=hidH (cells2G hyb)
   have B2:=hidH (BR.out.trans (hW2.mono hsr))
   have GI2:=hidH (GI.out.below hW2)
   have hs2:=hW2.size
   have hybl:wr.heap.size<w2.heap.size:=zab hyb
   clear hW2 hyb c0 c1 GI BR
   have x0:=zaa B2.out XB.out.1
   have x1:=zaa B2.out XB.out.2
   obtain ⟨y0,y1⟩:=YB.out
   go_wp2_with fail
   refine (zhQ x y xa ga xc gc w2 (HX.out.below (B1.out.trans (B2.out.mono hs1))) GI2.out hxl).mono ?_
   rintro e w3 ⟨he,hb3⟩
   have B3:=hidH (B2.out.trans (hb3.mono (by omega)))
   clear hb3 x0 x1 y0 y1
   cases hd:decide (x.rule=y.rule∧x.tags=y.tags)
   ·rw [hd] at he HS
    subst he
    go_wp2_with fail
    go_roundw
    case rel=>exact ⟨i+1,by go_num,by omega,by rw [HS.out,HN.out];rfl,B3.out⟩
    case measure=>(simp [intOf];omega)
   ·rw [hd] at he
    subst he
    go_wp2_with fail
    go_ret
    exact ⟨rfl,B1.out.trans (B3.out.mono hs1)⟩
  ·exfalso
   have:=HN.out
   rw [List.take_of_length_le (by omega),hh] at this
   cases this
theorem zoj {r:Ru} (h:(chk [r]).1=0):1≤positives r.pats:=by
 unfold chk at h
 rw [if_pos (by simp)] at h
 unfold zcV at h
 split at h
 ·rename_i h0
  unfold chk1 at h0
  split at h0
  ·simp at h0
  ·split at h0
   ·simp at h0
   ·split at h0
    ·rename_i hp
     exact hp.1
    ·simp at h0
 ·rename_i h0
  exact absurd h h0
theorem zjw {fs:List F}:∀ {k:Nat}{U:List F},U∈comb fs k→U.length=k
 | 0,U,h=>by
  simp [comb] at h
  simp [h]
 | k+1,U,h=>by
  simp only [comb,List.mem_flatMap,List.mem_map] at h
  obtain ⟨S,hS,f,_,rfl⟩:=h
  simp [zjw hS]
theorem zff {rs:List Ru}{fs:List F} (hk:(chk rs).1=0) (hg:zaS fs=true) {x:It} (h:x∈za4 fs 0 rs):zaJ rs (itIn x)=true∧1≤x.tags.length∧x.tags.length≤3:=by
 obtain ⟨k,r,h1,h2,h3⟩:=zdM h
 have hr:r∈rs:=List.mem_of_getElem? h1
 have hc:=zio hk hr
 rw [zgF hc hg] at h3
 obtain ⟨U,hU,e⟩:=List.mem_map.1 (List.mem_filter.1 h3).1
 have hl:x.tags.length=positives r.pats:=by rw [← e,List.length_map,zjw hU]
 have hp3:=((zeV hk).2 r hr).2
 have hp1:=zoj hc
 have hkl:=(List.getElem?_eq_some_iff.1 h1).1
 refine ⟨?_,by omega,by omega⟩
 have e:zaJ rs (itIn x)=(decide (0≤x.rule) && (decide (x.rule<(rs.length:Int)) && decide (x.tags.length≤3))):=rfl
 rw [e]
 simp only [Bool.and_eq_true,decide_eq_true_eq]
 omega
theorem zod {w:World}{b1 base:Nat}{a:Option Addr}{c:Nat}{M:List ItX} (h:Iw w b1 base a c M) {i:Nat}{z:ItX} (hi:M[i]?=some z) (h1:1≤z.1.tags.length):∃ k bt ot ct,a=some ⟨k,0,none⟩∧k<w.heap.size∧w.cell? ⟨k,i * 2,none⟩=some (.int .i64 z.1.rule)∧w.cell? ⟨k,i * 2+1,none⟩=some (.slice (some ⟨bt,ot,none⟩) z.1.tags.length ct)∧zas none w (some ⟨bt,ot,none⟩) z.1.tags:=by
 obtain ⟨k,rfl,_,hk,c0,c1,_⟩:=h.get hi
 obtain ⟨⟨ga,gc,e⟩,ho⟩:=h.all z (List.mem_of_getElem? hi)
 rw [e] at c1 ho
 rcases ho.2 with ⟨_,h0⟩ | ⟨g,cap,cur,he,_⟩
 ·omega
 ·injection he with he1 he2 he3
  subst he1
  exact ⟨k,g,0,gc,rfl,hk,c0,c1,zas.owns ho⟩
theorem zo9 {w:World}{b1 base:Nat}{a:Option Addr}{c:Nat}{M:List ItX} (h:Iw w b1 base a c M) (h1:∀ z∈M,1≤z.1.tags.length):InsS w a ((M.map Prod.fst).map itIn):=by
 intro i x hx
 rw [List.map_map,List.getElem?_map] at hx
 obtain ⟨z,hz,rfl⟩:=Option.map_eq_some_iff.1 hx
 obtain ⟨k,bt,ot,ct,e,_,c0,c1,hi⟩:=zod h hz (h1 z (List.mem_of_getElem? hz))
 exact ⟨k,0,bt,ot,ct,e,by rw [Nat.zero_add];exact c0,by rw [Nat.zero_add];exact c1,hi⟩
theorem zhE {rs:List Ru}{fs:List F} (hk:(chk rs).1=0) (hg:zaS fs=true) {C:List It} (hC:C=za4 fs 0 rs) (hl:C.length≤1000) :
  ∃ G:List In,agM rs (C.map itIn)=G∧G.length=C.length∧(∀ x∈G,∃ y∈C,x=itIn y)∧(∀ y∈C,itIn y∈G)∧(∀ x,befI rs x x=false)∧∀ (i:Nat) (x y:In),G[i+1]?=some x→G[i]?=some y→befI rs x y=false∧befI rs y x=true:=by
 have hok:agOk rs (C.map itIn)=true:=by
  unfold agOk
  simp only [Bool.and_eq_true,decide_eq_true_eq,List.all_eq_true]
  refine ⟨hk,by simpa using hl,fun x hx=>?_⟩
  obtain ⟨y,hy,rfl⟩:=List.mem_map.1 hx
  rw [hC] at hy
  exact (zff hk hg hy).1
 have hp:=zjG rs (C.map itIn)
 have hnd:(agS rs (C.map itIn)).Nodup:=by
  refine hp.nodup_iff.2 ?_
  rw [hC]
  exact zeH hg rs 0 (fun r hr=>zio hk hr)
 refine ⟨agS rs (C.map itIn),zk1 hok,by rw [hp.length_eq];simp,fun x hx=>?_,fun y hy=>hp.mem_iff.2 (List.mem_map.2 ⟨y,hy,rfl⟩),(zch rs).irr,fun i x y hx hy=>?_⟩
 ·obtain ⟨y,hy,e⟩:=List.mem_map.1 (hp.mem_iff.1 hx)
  exact ⟨y,hy,e.symm⟩
 ·have hi:=(List.getElem?_eq_some_iff.1 hx).1
  have ex:=(List.getElem?_eq_some_iff.1 hx).2
  have hi':=(List.getElem?_eq_some_iff.1 hy).1
  have ey:=(List.getElem?_eq_some_iff.1 hy).2
  have h1:=List.pairwise_iff_getElem.1 (zgE rs (C.map itIn)) i (i+1) hi' hi (by omega)
  rw [ex,ey] at h1
  refine ⟨h1,?_⟩
  cases h2:befI rs y x
  ·exfalso
   have e:=(zch rs).same x y h1 h2
   have h3:=List.pairwise_iff_getElem.1 hnd i (i+1) hi' hi (by omega)
   rw [ex,ey] at h3
   exact h3 e.symm
  ·rfl
theorem zlK {rs:List Ru}{x y:In} (hk:(chk rs).1=0) (hx:zaJ rs x=true) (hy:zaJ rs y=true):bef rs x y=befI rs x y:=by simp [bef,hx,hy,hk]
set_option maxRecDepth 100000 in
set_option maxHeartbeats 12800000 in
theorem zj8 (a:Option Addr) (n c:Nat) (w:World) (h:ByA w a n):Calls Tryz.prog 5 #[.slice a n c] w fun e w'=>e=.returned (.bool true)∧Below w.heap.size w w':=by
 by_cases hn:n≤1048576
 rotate_left
 ·have hnI:(1048576:Int)<(n:Int):=by omega
  clear h
  go_enter Tryz.func5,Tryz.ntmps5
  go_wp2_with fail
  go_ret
  exact ⟨rfl,Below.refl _ _⟩
 have hnI:¬ (1048576:Int)<(n:Int):=by omega
 have HD:=hidH (zg8 a n c 8 w h hn (by omega))
 clear h
 go_enter Tryz.func5,Tryz.ntmps5
 go_wp2_with fail
 refine HD.out.mono ?_
 rintro e w1 ⟨ra,rc,rs,fa,fc,fs,nx,cp,sg,rfl,hRS,hFS,hru,hrc,hfa,hfc,hb1⟩
 have RS:=hidH hRS
 have FSo:=hidH hFS
 have RU1:=hidH hru
 have FA1:=hidH hfa
 have B1:=hidH hb1
 have hs1:=hb1.size
 have hr8:=hRS.len.2
 have hf8:=hFS.len
 have HCK:=hidH (show (chk rs).1=0 by rw [hRS.chk])
 clear hRS hFS hru hfa hb1 HD
 unfold stV
 go_upto_region 4 with fail
 refine zaj ?_
 intro w2 hW2 hsb
 have SB2:=hidH (show TB w2 w1.heap.size fa fs.length fc nx cp sg from hsb)
 have RU2:=hidH (RU1.out.below hW2)
 have FA2:=hidH (FA1.out.below hW2)
 have B2:=hidH (B1.out.trans (hW2.mono hs1))
 have hs2:=hW2.size
 obtain ⟨⟨s0,s1,s2,s3⟩,_,hsbl⟩:=SB2.out.facts
 clear hW2 hsb RU1 FA1 B1
 go_wp2_with fail
 refine (zgY rs fs ra rc fa fc w2 RU2.out hrc RS.out.le RS.out.ops FA2.out (by omega) FSo.out.sized (by simp [ready,HCK.out,FSo.out.good])).mono ?_
 rintro e w3 ⟨⟨xa,xc,X,rfl,hIO,hXm⟩,hb3⟩
 have hcf:zet rs fs=za4 fs 0 rs:=by
  unfold zet
  exact if_pos (by simp [ready,HCK.out,FSo.out.good])
 obtain ⟨C,hC⟩:∃ C,C=za4 fs 0 rs:=⟨_,rfl⟩
 have HC:=hidH hC
 have hXC:X.length=C.length:=by rw [hC,← hcf,← hXm];simp
 have hCl:C.length≤1024000:=by have:=(zj7 rs fs).1;rw [hcf,← hC] at this;exact this
 have IX:=hidH (show zjb w3 xa C by have:=hIO.at;rw [hXm,hcf,← hC] at this;exact this)
 have HCF:=hidH (show zet rs fs=C by rw [hcf,hC])
 have B3:=hidH (B2.out.trans (hb3.mono (by omega)))
 have RU3:=hidH (RU2.out.below hb3)
 have FA3:=hidH (FA2.out.below hb3)
 have s0':=zaa hb3 s0
 have hs3:=hb3.size
 rw [hXC]
 clear hb3 hIO hXm hXC hcf hC s0 s1 s2 s3 SB2 RU2 FA2 B2
 by_cases hbig:1000<C.length
 ·have hbI:(1000:Int)<(C.length:Int):=by omega
  go_wp2_with fail
  go_ret
  exact ⟨rfl,B3.out⟩
 have hbI:¬ (1000:Int)<(C.length:Int):=by omega
 go_wp2_with fail
 refine (zhj rs fs ra rc fa fc w3 RU3.out hrc RS.out.le RS.out.ops RS.out.vok FA3.out (by omega) FSo.out.sized).mono ?_
 rintro e w4 ⟨⟨ya,yc,Y,rfl,hIY,hYm,_⟩,hb4⟩
 rw [HCF.out] at hYm
 have HT:=hidH (fun y (hy:y∈C)=>zff HCK.out FSo.out.good (x:=y) (by rw [← HC.out];exact hy))
 obtain ⟨D,hD⟩:∃ D,D=C.map itIn:=⟨_,rfl⟩
 have HDD:=hidH hD
 have IY:=hidH (show InsS w4 ya D by have:=zo9 hIY (fun z hz=>(HT.out z.1 (by rw [← hYm];exact List.mem_map.2 ⟨z,hz,rfl⟩)).2.1);rw [hYm,← hD] at this;exact this)
 have hYC:Y.length=D.length:=by rw [hD,← hYm];simp
 have hDl:D.length≤1000:=by rw [hD];simp;omega
 have B4:=hidH (B3.out.trans (hb4.mono (by omega)))
 have RU4:=hidH (RU3.out.below hb4)
 have IX4:=hidH (IX.out.below hb4)
 have hs4:=hb4.size
 rw [hYC]
 clear hb4 hIY hYm hYC s0' RU3 FA3 B3 IX hD
 go_wp2_with fail
 refine (zi9 rs D ra rc ya yc w4 RU4.out hrc RS.out.le RS.out.ops IY.out (by omega) (fun x hx=>by rw [HDD.out] at hx;obtain ⟨y,hy,rfl⟩:=List.mem_map.1 hx;have:=(HT.out y hy).2.2;show y.tags.length≤_;omega)).mono ?_
 rintro e w5 ⟨⟨za,zc,Z,rfl,hIZ,hZm,_⟩,hb5⟩
 obtain ⟨G,hG,hGl,hGC,hCG,hGi,hGs⟩:=zhE HCK.out FSo.out.good HC.out (by omega)
 rw [HDD.out,hG] at hZm
 obtain ⟨GL,hGL⟩:∃ GL,GL=G.map inIt:=⟨_,rfl⟩
 have HGL:=hidH hGL
 rw [← hGL] at hZm
 have hGLl:GL.length=C.length:=by rw [hGL];simpa using hGl
 have hZC:Z.length=C.length:=by rw [← hGLl,← hZm];simp
 have HZ:=hidH hZm
 have IZ:=hidH hIZ
 have HG:=hidH (And.intro hGC (And.intro hCG (And.intro hGi hGs)))
 have B5:=hidH (B4.out.trans (hb5.mono (by omega)))
 have RU5:=hidH (RU4.out.below hb5)
 have IX5:=hidH (IX4.out.below hb5)
 have hs5:=hb5.size
 have ZI:=hidH (show zjb w5 za GL by have:=hIZ.at;rw [hZm] at this;exact this)
 have HZG:=hidH hGLl
 rw [hZC]
 clear hb5 hIZ hZm hZC hG hGC hCG hGi hGs RU4 IX4 IY B4 hGL hGLl
 go_wp2_with fail
 go_loopw [38] (fun iv wr=>∃ i:Nat,iv=.int .i64 (i:Int)∧i≤C.length∧Below w5.heap.size w5 wr) (fun iv _=>((C.length:Int) - intOf iv).toNat)
 case atStart=>exact ⟨0,rfl,by omega,Below.refl _ _⟩
 case round=>
  obtain ⟨i,rfl,hiC,hbr⟩:=hrel
  have BR:=hidH hbr
  have hsr:=hbr.size
  clear hbr
  by_cases hi:i<C.length
  ·have hiI:(i:Int)<(C.length:Int):=by omega
   have hi0:(0:Int)≤(i:Int):=by omega
   obtain ⟨x,hx⟩:∃ x,C[i]?=some x:=⟨C[i],by simp [hi]⟩
   have hxC:x∈C:=List.mem_of_getElem? hx
   have hx3:=(HT.out x hxC).2.2
   obtain ⟨xb,xo,ga,gc,rfl,c0,c1,gi⟩:=(IX5.out.below BR.out) i x hx
   have hxbl:=zjZ c0
   have GI:=hidH gi
   have HH:=hidH (show hasI x GL=true from List.any_eq_true.2 ⟨x,by rw [HGL.out];exact List.mem_map.2 ⟨itIn x,HG.out.2.1 x hxC,rfl⟩,by simp⟩)
   clear hx hxC gi
   go_upto_region 13 with fail
   refine zaj ?_
   intro w6 hW6 hyb
   obtain ⟨y0,y1⟩:=cells2G hyb
   have B6:=hidH (BR.out.trans (hW6.mono hsr))
   have GI6:=hidH (GI.out.below hW6)
   have hs6:=hW6.size
   have hybl:wr.heap.size<w6.heap.size:=zab hyb
   clear hW6 hyb c0 c1 GI BR
   go_wp2_with fail
   rw [← HZG.out]
   refine (zjd GL x za ga zc gc w6 (ZI.out.below B6.out) GI6.out (by have:=HZG.out;omega) (by omega) HH.out).mono ?_
   rintro e w7 ⟨rfl,hb7⟩
   have B7:=hidH (B6.out.trans (hb7.mono (by omega)))
   clear hb7 y0 y1
   rw [HZG.out]
   go_wp2_with fail
   go_roundw
   case rel=>exact ⟨i+1,by go_num,by omega,B7.out⟩
   case measure=>(simp [intOf];omega)
  ·have hiI:¬ (i:Int)<(C.length:Int):=by omega
   have BX:=hidH BR.out
   go_wp2_with fail
   go_loopw [49] (fun iv wr=>∃ i:Nat,iv=.int .i64 (i:Int)∧i≤C.length∧Below w5.heap.size w5 wr) (fun iv _=>((C.length:Int) - intOf iv).toNat)
   case atStart=>exact ⟨0,rfl,by omega,BX.out⟩
   case round=>
    clear hiI hiC
    obtain ⟨wz,rfl⟩:∃ v,v=wr:=⟨wr,rfl⟩
    rename_i i0 _ _ _
    obtain ⟨i,rfl,hiC,hbz⟩:=hrel
    have BZ:=hidH hbz
    have hsz:=hbz.size
    clear hbz
    by_cases hi:i<C.length
    ·have hiI:(i:Int)<(C.length:Int):=by omega
     have hi0:(0:Int)≤(i:Int):=by omega
     have key:=hidH (fun (k:Nat) (hk:k<C.length)=>(show ∃ x z,G[k]?=some x∧Z[k]?=some z∧z.1=inIt x∧zaJ rs x=true∧1≤x.tags.length∧x.tags.length≤3 from by
      have hkG:k<G.length:=by have:=HZG.out;rw [HGL.out] at this;simp at this;omega
      obtain ⟨x,hx⟩:∃ x,G[k]?=some x:=⟨G[k],by simp [hkG]⟩
      have h1:(Z.map Prod.fst)[k]?=some (inIt x):=by rw [HZ.out,HGL.out,List.getElem?_map,hx];rfl
      rw [List.getElem?_map] at h1
      obtain ⟨z,hz,hz1⟩:=Option.map_eq_some_iff.1 h1
      obtain ⟨y,hy,e⟩:=HG.out.1 x (List.mem_of_getElem? hx)
      obtain ⟨p1,p2,p3⟩:=HT.out y hy
      subst e
      exact ⟨itIn y,z,hx,hz,hz1,p1,p2,p3⟩))
     obtain ⟨x,z,hx,hz,hz1,px,tx1,tx3⟩:=key.out i hi
     obtain ⟨xb,bt,ot,ct,rfl,hxb,c0,c1,hti⟩:=zod (IZ.out.bel BZ.out) hz (by rw [hz1];exact tx1)
     rw [hz1] at c0 c1 hti
     have CX:=hidH (fun u (hu:Below wz.heap.size wz u)=>(show u.cell? ⟨xb,i * 2,none⟩=some (.int .i64 x.rule)∧u.cell? ⟨xb,i * 2+1,none⟩=some (.slice (some ⟨bt,ot,none⟩) x.tags.length ct) from ⟨zaa hu c0,zaa hu c1⟩))
     have Tx:=hidH (fun u (hu:Below wz.heap.size wz u)=>(show zas none u (some ⟨bt,ot,none⟩) x.tags from hti.below hu))
     have RUx:=hidH (fun u (hu:Below wz.heap.size wz u)=>(RU5.out.below BZ.out).below hu)
     have BF3:=hidH (show bef rs x x=false by rw [zlK HCK.out px px];exact HG.out.2.2.1 x)
     have HX:=hidH hx
     clear c0 c1 hti hx hz hz1
     by_cases h0:i=0
     ·have hz0:decide ((0:Int)<(i:Int))=false:=by simp;omega
      have hz1:decide (0<i)=false:=by simp;omega
      clear h0
      go_wp2_with fail
      refine wp_region_noPanic ?_
      refine wp_region_held_drew (S:=(fun _=>True)) (by kernel_rfl) ?_ (fun hHeld=>?_)
      ·(try dsimp only)
       all_goals trivial
      refine tk 0 hHeld ?_
      (try simp only [pA,pZ,pS])
      refine tk 1 hHeld ?_
      (try simp only [pA,pZ,pS])
      refine tk 2 hHeld ?_
      refine tn 3 hHeld ?_
      refine tn 4 hHeld ?_
      refine tn 5 hHeld ?_
      (try simp only [pA,pZ,pS])
      refine tn 6 hHeld ?_
      refine tn 7 hHeld ?_
      refine tn 8 hHeld ?_
      refine tn 9 hHeld ?_
      (try simp only [pA,pZ,pS])
      refine tn 10 hHeld ?_
      refine tn 11 hHeld ?_
      refine tn 12 hHeld ?_
      refine tn 13 hHeld ?_
      (try simp only [pA,pZ,pS])
      refine tn 14 hHeld ?_
      refine tn 15 hHeld ?_
      refine tn 16 hHeld ?_
      refine tn 17 hHeld ?_
      (try simp only [pA,pZ,pS])
      refine tn 18 hHeld ?_
      refine tn 19 hHeld ?_
      refine tn 20 hHeld ?_
      refine tn 21 hHeld ?_
      (try simp only [pA,pZ,pS])
      refine tn 22 hHeld ?_
      refine tn 23 hHeld ?_
      refine tn 24 hHeld ?_
      refine tn 25 hHeld ?_
      (try simp only [pA,pZ,pS])
      refine tn 26 hHeld ?_
      refine tn 27 hHeld ?_
      refine tn 28 hHeld ?_
      refine tn 29 hHeld ?_
      (try simp only [pA,pZ,pS])
      refine tn 30 hHeld ?_
      refine tn 31 hHeld ?_
      refine tn 32 hHeld ?_
      refine tn 33 hHeld ?_
      (try simp only [pA,pZ,pS])
      refine tn 34 hHeld ?_
      refine tn 35 hHeld ?_
      refine tn 36 hHeld ?_
      refine tn 37 hHeld ?_
      (try simp only [pA,pZ,pS])
      refine tn 38 hHeld ?_
      refine tn 39 hHeld ?_
      refine tn 40 hHeld ?_
      refine tn 41 hHeld ?_
      (try simp only [pA,pZ,pS])
      refine tk 42 hHeld ?_
      (try simp only [pA,pZ,pS])
      refine wpAnyH_done (by kernel_rfl) ?_ _
      refine NoPanic.normal ?_
      have BE:=hidH (((Below.refl wz.heap.size wz).drew.drew:Below wz.heap.size wz wz.drew.drew))
      have CXd:=hidH (CX.out _ BE.out)
      go_wp2_with fail
      refine wp_region_noPanic ?_
      refine wp_region_held_drew (S:=(fun u=>u.cell? ⟨xb,i * 2,none⟩=some (.int .i64 x.rule)∧u.cell? ⟨xb,i * 2+1,none⟩=some (.slice (some ⟨bt,ot,none⟩) x.tags.length ct))) (by kernel_rfl) ?_ (fun hHeld=>?_)
      ·(try dsimp only)
       (first | with_reducible exact CX10.out | with_reducible exact CXd.out)
      refine tk 0 hHeld ?_
      (try simp only [pA,pZ,pS])
      refine tk 1 hHeld ?_
      (try simp only [pA,pZ,pS])
      refine tk 2 hHeld ?_
      (try simp only [pA,pZ,pS])
      refine tk 3 hHeld ?_
      (try simp only [pA,pZ,pS])
      refine tk 4 hHeld ?_
      (try simp only [pA,pZ,pS])
      refine tk 5 hHeld ?_
      (try simp only [pA,pZ,pS])
      refine tk 6 hHeld ?_
      (try simp only [pA,pZ,pS])
      refine tk 7 hHeld ?_
      (try simp only [pA,pZ,pS])
      refine tk 8 hHeld ?_
      (try simp only [pA,pZ,pS])
      refine wpAnyH_ready (rs:=[9]) (by kernel_rfl) (by simp) ?_
      refine AllReadyH.cons (o:=?o1) ?ho1 (fun K hK=>?step1) AllReadyH.nil
      case ho1=>(simp only [List.getElem?_toArray,List.getElem?_cons_succ,List.getElem?_cons_zero];rfl)
      go_simp
      (go_at_call 18;refine (zda rs ra rc x x bt ot ct bt ot ct _ (RUx.out _ BE.out) hrc RS.out.le RS.out.ops (Tx.out _ BE.out) (Tx.out _ BE.out) (by omega) (by omega)).mono ?_;rintro e w10 ⟨he10,hb10⟩;rw [BF3.out] at he10;subst he10;have B10:=hidH (BE.out.trans (hb10.mono (BE.out.size)));have CX10:=hidH (CX.out _ B10.out);clear hb10)
      (try go_wp2_with fail)
      refine hK.out _ _ ?hS1 (fun hHeld'=>?rest1)
      case hS1=>((try dsimp only);(first | with_reducible exact CX10.out | with_reducible exact CXd.out))
      clear hK K
      (first | simp only [pA,pZ,pS] | simp only [pN] | skip)
      clear hHeld
      have hHeld:=hHeld'
      clear hHeld'
      refine wpAnyH_done (by kernel_rfl) ?_ _
      refine NoPanic.normal ?_
      go_wp2_with fail
      go_roundw
      case rel=>exact ⟨i+1,by go_num,by omega,BZ.out.trans (B10.out.mono (by omega))⟩
      case measure=>(simp [intOf];omega)
     ·obtain ⟨j,rfl⟩:∃ j,i=j+1:=⟨i - 1,by omega⟩
      obtain ⟨y,v,hy,hv,hv1,py,ty1,ty3⟩:=key.out j (by omega)
      obtain ⟨yb,bu,ou,cu,e,_,d0,d1,htj⟩:=zod (IZ.out.bel BZ.out) hv (by rw [hv1];exact ty1)
      injection e with e
      injection e with e
      subst e
      rw [hv1] at d0 d1 htj
      have CS:=hidH (fun u (hu:Below wz.heap.size wz u)=>(show u.cell? ⟨xb,(j+1) * 2,none⟩=some (.int .i64 x.rule)∧u.cell? ⟨xb,(j+1) * 2+1,none⟩=some (.slice (some ⟨bt,ot,none⟩) x.tags.length ct)∧u.cell? ⟨xb,j * 2,none⟩=some (.int .i64 y.rule)∧u.cell? ⟨xb,j * 2+1,none⟩=some (.slice (some ⟨bu,ou,none⟩) y.tags.length cu) from ⟨(CX.out u hu).1,(CX.out u hu).2,zaa hu d0,zaa hu d1⟩))
      have Ty:=hidH (fun u (hu:Below wz.heap.size wz u)=>(show zas none u (some ⟨bu,ou,none⟩) y.tags from htj.below hu))
      have hbb:=HG.out.2.2.2 j x y HX.out hy
      have BF1:=hidH (show bef rs x y=false by rw [zlK HCK.out px py];exact hbb.1)
      have BF2:=hidH (show bef rs y x=true by rw [zlK HCK.out py px];exact hbb.2)
      have BD:=hidH ((Below.refl wz.heap.size wz).drew:Below wz.heap.size wz wz.drew)
      have CSd:=hidH (CS.out _ BD.out)
      have hjz:(0:Int)<((j+1:Nat):Int):=by omega
      have hj0:(0:Int)≤(j:Int):=by omega
      have hjI:(j:Int)<(C.length:Int):=by omega
      have hjs:IntKind.i64.wrap (((j+1:Nat):Int) - 1)=(j:Int):=by rw [IntKind.wrap_i64];omega
      have hc1:(0:Int)≤(j:Int)+1:=by omega
      have hc2:(j:Int)+1<(C.length:Int):=by omega
      have hjw:IntKind.i64.wrap (j:Int)=(j:Int):=by rw [IntKind.wrap_i64];omega
      clear hbb hy hv hv1 d0 d1 htj h0
      go_wp2_with fail
      refine wp_region_noPanic ?_
      refine wp_region_held_drew (S:=(fun u=>u.cell? ⟨xb,(j+1) * 2,none⟩=some (.int .i64 x.rule)∧u.cell? ⟨xb,(j+1) * 2+1,none⟩=some (.slice (some ⟨bt,ot,none⟩) x.tags.length ct)∧u.cell? ⟨xb,j * 2,none⟩=some (.int .i64 y.rule)∧u.cell? ⟨xb,j * 2+1,none⟩=some (.slice (some ⟨bu,ou,none⟩) y.tags.length cu))) (by kernel_rfl) ?_ (fun hHeld=>?_)
      ·(try dsimp only)
       (first | with_reducible exact CS9.out | with_reducible exact CS8.out | with_reducible exact CS7.out | with_reducible exact CSd.out)
      refine tk 0 hHeld ?_
      (try simp only [pA,pZ,pS])
      refine tk 1 hHeld ?_
      (try simp only [pA,pZ,pS])
      refine tk 2 hHeld ?_
      (try simp only [pA,pZ,pS])
      refine tk 3 hHeld ?_
      (try simp only [pA,pZ,pS])
      refine tk 4 hHeld ?_
      (try simp only [pA,pZ,pS])
      refine tk 5 hHeld ?_
      (try simp only [pA,pZ,pS])
      refine tk 6 hHeld ?_
      (try simp only [pA,pZ,pS])
      refine tk 7 hHeld ?_
      (try simp only [pA,pZ,pS])
      refine tk 8 hHeld ?_
      (try simp only [pA,pZ,pS])
      refine tk 9 hHeld ?_
      (try simp only [pA,pZ,pS])
      refine tk 10 hHeld ?_
      (try simp only [pA,pZ,pS])
      refine tk 11 hHeld ?_
      (try simp only [pA,pZ,pS])
      refine tk 12 hHeld ?_
      (try simp only [pA,pZ,pS])
      refine wpAnyH_ready (rs:=[13]) (by kernel_rfl) (by simp) ?_
      refine AllReadyH.cons (o:=?o2) ?ho2 (fun K hK=>?step2) AllReadyH.nil
      case ho2=>(simp only [List.getElem?_toArray,List.getElem?_cons_succ,List.getElem?_cons_zero];rfl)
      go_simp
      (go_at_call 18;refine (zda rs ra rc x y bt ot ct bu ou cu wz.drew (RUx.out wz.drew BD.out) hrc RS.out.le RS.out.ops (Tx.out wz.drew BD.out) (Ty.out wz.drew BD.out) (by omega) (by omega)).mono ?_;rintro e w7 ⟨he7,hb7⟩;rw [BF1.out] at he7;subst he7;have B7:=hidH (BD.out.trans (hb7.mono (BD.out.size)));have CS7:=hidH (CS.out _ B7.out);clear hb7)
      (try go_wp2_with fail)
      refine hK.out _ _ ?hS2 (fun hHeld'=>?rest2)
      case hS2=>((try dsimp only);(first | with_reducible exact CS9.out | with_reducible exact CS8.out | with_reducible exact CS7.out | with_reducible exact CSd.out))
      clear hK K
      (first | simp only [pA,pZ,pS] | simp only [pN] | skip)
      clear hHeld
      have hHeld:=hHeld'
      clear hHeld'
      refine tk 14 hHeld ?_
      (try simp only [pA,pZ,pS])
      refine tk 15 hHeld ?_
      (try simp only [pA,pZ,pS])
      refine tk 16 hHeld ?_
      (try simp only [pA,pZ,pS])
      refine tk 17 hHeld ?_
      (try simp only [pA,pZ,pS])
      refine tk 18 hHeld ?_
      (try simp only [pA,pZ,pS])
      refine tk 19 hHeld ?_
      (try simp only [pA,pZ,pS])
      refine tk 20 hHeld ?_
      (try simp only [pA,pZ,pS])
      refine tk 21 hHeld ?_
      (try simp only [pA,pZ,pS])
      refine tk 22 hHeld ?_
      (try simp only [pA,pZ,pS])
      refine tk 23 hHeld ?_
      (try simp only [pA,pZ,pS])
      refine tk 24 hHeld ?_
      (try simp only [pA,pZ,pS])
      refine wpAnyH_ready (rs:=[25]) (by kernel_rfl) (by simp) ?_
      refine AllReadyH.cons (o:=?o3) ?ho3 (fun K hK=>?step3) AllReadyH.nil
      case ho3=>(simp only [List.getElem?_toArray,List.getElem?_cons_succ,List.getElem?_cons_zero];rfl)
      go_simp
      (go_at_call 18;refine (zda rs ra rc y x bu ou cu bt ot ct w7 (RUx.out w7 B7.out) hrc RS.out.le RS.out.ops (Ty.out w7 B7.out) (Tx.out w7 B7.out) (by omega) (by omega)).mono ?_;rintro e w8 ⟨he8,hb8⟩;rw [BF2.out] at he8;subst he8;have B8:=hidH (B7.out.trans (hb8.mono (B7.out.size)));have CS8:=hidH (CS.out _ B8.out);clear hb8)
      (try go_wp2_with fail)
      refine hK.out _ _ ?hS3 (fun hHeld'=>?rest3)
      case hS3=>((try dsimp only);(first | with_reducible exact CS9.out | with_reducible exact CS8.out | with_reducible exact CS7.out | with_reducible exact CSd.out))
      clear hK K
      (first | simp only [pA,pZ,pS] | simp only [pN] | skip)
      clear hHeld
      have hHeld:=hHeld'
      clear hHeld'
      refine tk 26 hHeld ?_
      (try simp only [pA,pZ,pS])
      refine tk 27 hHeld ?_
      (try simp only [pA,pZ,pS])
      refine tk 28 hHeld ?_
      (try simp only [pA,pZ,pS])
      refine tk 29 hHeld ?_
      (try simp only [pA,pZ,pS])
      refine tk 30 hHeld ?_
      (try simp only [pA,pZ,pS])
      refine tk 31 hHeld ?_
      (try simp only [pA,pZ,pS])
      refine tk 32 hHeld ?_
      (try simp only [pA,pZ,pS])
      refine tk 33 hHeld ?_
      (try simp only [pA,pZ,pS])
      refine tk 34 hHeld ?_
      (try simp only [pA,pZ,pS])
      refine tk 35 hHeld ?_
      (try simp only [pA,pZ,pS])
      refine tk 36 hHeld ?_
      (try simp only [pA,pZ,pS])
      refine tk 37 hHeld ?_
      (try simp only [pA,pZ,pS])
      refine tk 38 hHeld ?_
      (try simp only [pA,pZ,pS])
      refine wpAnyH_ready (rs:=[39]) (by kernel_rfl) (by simp) ?_
      refine AllReadyH.cons (o:=?o4) ?ho4 (fun K hK=>?step4) AllReadyH.nil
      case ho4=>(simp only [List.getElem?_toArray,List.getElem?_cons_succ,List.getElem?_cons_zero];rfl)
      go_simp
      (go_at_call 19;refine (zjg rs ra rc y x (some ⟨bu,ou,none⟩) (some ⟨bt,ot,none⟩) cu ct w8 (RUx.out w8 B8.out) hrc RS.out.le RS.out.ops (Ty.out w8 B8.out) (Tx.out w8 B8.out) (by omega) (by omega) HCK.out py px).mono ?_;rintro e w9 ⟨he9,hb9⟩;rw [BF2.out] at he9;subst he9;have B9:=hidH (B8.out.trans (hb9.mono (B8.out.size)));have CS9:=hidH (CS.out _ B9.out);clear hb9)
      (try go_wp2_with fail)
      refine hK.out _ _ ?hS4 (fun hHeld'=>?rest4)
      case hS4=>((try dsimp only);(first | with_reducible exact CS9.out | with_reducible exact CS8.out | with_reducible exact CS7.out | with_reducible exact CSd.out))
      clear hK K
      (first | simp only [pA,pZ,pS] | simp only [pN] | skip)
      clear hHeld
      have hHeld:=hHeld'
      clear hHeld'
      refine tk 40 hHeld ?_
      (try simp only [pA,pZ,pS])
      refine tk 41 hHeld ?_
      (try simp only [pA,pZ,pS])
      refine tk 42 hHeld ?_
      (try simp only [pA,pZ,pS])
      refine wpAnyH_done (by kernel_rfl) ?_ _
      refine NoPanic.normal ?_
      have BE:=hidH (B9.out.drew)
      have CXd:=hidH (CX.out _ BE.out)
      go_wp2_with fail
      refine wp_region_noPanic ?_
      refine wp_region_held_drew (S:=(fun u=>u.cell? ⟨xb,(j+1) * 2,none⟩=some (.int .i64 x.rule)∧u.cell? ⟨xb,(j+1) * 2+1,none⟩=some (.slice (some ⟨bt,ot,none⟩) x.tags.length ct))) (by kernel_rfl) ?_ (fun hHeld=>?_)
      ·(try dsimp only)
       (first | with_reducible exact CX10.out | with_reducible exact CXd.out)
      refine tk 0 hHeld ?_
      (try simp only [pA,pZ,pS])
      refine tk 1 hHeld ?_
      (try simp only [pA,pZ,pS])
      refine tk 2 hHeld ?_
      (try simp only [pA,pZ,pS])
      refine tk 3 hHeld ?_
      (try simp only [pA,pZ,pS])
      refine tk 4 hHeld ?_
      (try simp only [pA,pZ,pS])
      refine tk 5 hHeld ?_
      (try simp only [pA,pZ,pS])
      refine tk 6 hHeld ?_
      (try simp only [pA,pZ,pS])
      refine tk 7 hHeld ?_
      (try simp only [pA,pZ,pS])
      refine tk 8 hHeld ?_
      (try simp only [pA,pZ,pS])
      refine wpAnyH_ready (rs:=[9]) (by kernel_rfl) (by simp) ?_
      refine AllReadyH.cons (o:=?o5) ?ho5 (fun K hK=>?step5) AllReadyH.nil
      case ho5=>(simp only [List.getElem?_toArray,List.getElem?_cons_succ,List.getElem?_cons_zero];rfl)
      go_simp
      (go_at_call 18;refine (zda rs ra rc x x bt ot ct bt ot ct _ (RUx.out _ BE.out) hrc RS.out.le RS.out.ops (Tx.out _ BE.out) (Tx.out _ BE.out) (by omega) (by omega)).mono ?_;rintro e w10 ⟨he10,hb10⟩;rw [BF3.out] at he10;subst he10;have B10:=hidH (BE.out.trans (hb10.mono (BE.out.size)));have CX10:=hidH (CX.out _ B10.out);clear hb10)
      (try go_wp2_with fail)
      refine hK.out _ _ ?hS5 (fun hHeld'=>?rest5)
      case hS5=>((try dsimp only);(first | with_reducible exact CX10.out | with_reducible exact CXd.out))
      clear hK K
      (first | simp only [pA,pZ,pS] | simp only [pN] | skip)
      clear hHeld
      have hHeld:=hHeld'
      clear hHeld'
      refine wpAnyH_done (by kernel_rfl) ?_ _
      refine NoPanic.normal ?_
      go_wp2_with fail
      go_roundw
      case rel=>exact ⟨j+1+1,by go_num,by omega,BZ.out.trans (B10.out.mono (by omega))⟩
      case measure=>(simp [intOf];omega)
    ·have hiI:¬ (i:Int)<(C.length:Int):=by omega
     go_wp2_with fail
     go_ret
     exact ⟨rfl,B5.out.trans (BZ.out.mono (by omega))⟩
end Go.Proofs.YtmmdlgjmplddiaaGreat
