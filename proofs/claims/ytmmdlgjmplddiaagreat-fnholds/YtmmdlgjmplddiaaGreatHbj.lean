/-
  OUR OWN TEXT. Ic10, Ic3, one behind the other.
-/
import Derived.Test.YtmmdlgjmplddiaaGreatHbi
import Derived.Deep.RegionHeld3
import Derived.Deep.DrawnRows
import Derived.BigQuiet
import Derived.Test.YtmmdlgjmplddiaaGreatIc2m
import Derived.Test.YtmmdlgjmplddiaaGreatHay
namespace Go.Proofs.YtmmdlgjmplddiaaGreat
open Go.RowKit Go.Maps
attribute [local go_sem ↓] Go.wp_at_zero Go.wp_at_succ
theorem zcf.belowB {w w':World}{b B:Nat}{x:Ru}{a_pats:Option Addr}{c_pats:Nat}{a_exprs:Option Addr}{c_exprs:Nat}{a_acts:Option Addr}{c_acts:Nat} (h:zcf w b x a_pats c_pats a_exprs c_exprs a_acts c_acts) (hb:Below B w w') (hB:b<B):zcf w' b x a_pats c_pats a_exprs c_exprs a_acts c_acts:=by
 obtain ⟨h0,h1,h2,h3,h4⟩:=h
 exact ⟨(hb.cell (p:=⟨b,0,none⟩) hB).trans h0,(hb.cell (p:=⟨b,1,none⟩) hB).trans h1,(hb.cell (p:=⟨b,2,none⟩) hB).trans h2,(hb.cell (p:=⟨b,3,none⟩) hB).trans h3,(hb.cell (p:=⟨b,4,none⟩) hB).trans h4⟩
theorem zbN (p:Pt) (r:List Pt) (known:List ByteArray) (k:Nat):zbd (p :: r) known k=match zap p.terms known with | none=>.inl k | some here=>zbd r (if p.neg then known else here) (k+1):=rfl
def zdy (x:Ru) (known:List ByteArray):Option Nat:=zaD (zbW x.exprs known) x.acts (x.pats.length+1)
theorem zgL (x:Ru):scope x=match zbd x.pats [] 1 with | .inl i=>some i | .inr known=>zdy x known:=by
 unfold scope zdy
 cases zbd x.pats [] 1 <;> rfl
set_option maxHeartbeats 800000 in
theorem zfR (x:Ru) (a_pats:Option Addr) (c_pats:Nat) (a_exprs:Option Addr) (c_exprs:Nat) (a_acts:Option Addr) (c_acts:Nat) {q:Option Nat} (w:World) (h_pats:zbY q w a_pats x.pats) (h_exprs:za8 q w a_exprs x.exprs) (h_acts:zcu q w a_acts x.acts) (hle:x.le 1048576) (hp6:x.pats.length≤6) (hpt:∀ p∈x.pats,p.terms.length≤6) (hargs:∀ y∈x.acts,∀ v∈y.args,0≤v∧v<(x.exprs.length:Int)) (hcap:x.exprs.length≤c_exprs) (he60:x.exprs.length≤60) :
  Calls Tryz.prog 101 #[.agg #[.string x.name,.int .i64 x.sal,.slice a_pats x.pats.length c_pats,.slice a_exprs x.exprs.length c_exprs,.slice a_acts x.acts.length c_acts]] w fun e w'=>e=.returned (.int .i64 (item0 (scope x)))∧Below w.heap.size w w':=by
 obtain ⟨hsn0,hsp,hse,hsa⟩:=hle
 have hel:=hse.1
 have hal:=hsa.1
 obtain ⟨HH⟩:Nonempty (Hid (scope x=match zbd x.pats [] 1 with | .inl i=>some i | .inr known=>zdy x known)):=⟨zgL x⟩
 have hmm:=fun w=>run_makeMap (P:=Tryz.prog) 226 w
 go_enter Tryz.func101,Tryz.ntmps101
 go_wp2
 clear hmm
 go_loopw [13] (fun i wr=>∃ (k n:Nat) (known:List ByteArray) (D:DataW Unit),k≤x.pats.length∧i=.int .i64 k∧zbd x.pats [] 1=zbd (x.pats.drop k) known (k+1)∧n≤6 * k∧NMap wr (w.heap.size+1) n D∧NInv known D∧zcf wr w.heap.size x a_pats c_pats a_exprs c_exprs a_acts c_acts∧Below w.heap.size w wr) (fun i _=>x.pats.length - (intOf i).toNat)
 case atStart=>
  refine ⟨0,0,[],.map [],by omega,rfl,rfl,by omega,?_,NInv.start,(zcf.made w 35 x a_pats c_pats a_exprs c_exprs a_acts c_acts).below ((Below.refl _ _).alloc (Nat.le_refl _) _),((Below.refl _ _).alloc (Nat.le_refl _) _).alloc (by simp) _⟩
  have:=World.ownsMap_made (H:=Unit) (w.alloc (.cells #[.string x.name,.int .i64 x.sal,.slice a_pats x.pats.length c_pats,.slice a_exprs x.exprs.length c_exprs,.slice a_acts x.acts.length c_acts] 35)) Tryz.prog 9 zik
  simpa using this
 case round=>
  obtain ⟨k,n,known,D,hk,rfl,hG,hn,hown,hI,hbox,hb⟩:=hrel
  have HG:=zaW hG
  have HBX:=zaW hbox
  have HM:=zaW hown
  have hml:=hown.lt
  clear hG hown
  by_cases hkl:k<x.pats.length
  ·obtain ⟨p,hpk⟩:∃ p,x.pats[k]?=some p:=⟨x.pats[k],by simp [hkl]⟩
   obtain ⟨b,o,a_terms,c_terms,rfl,hq,c0,c1,c2,h_terms⟩:=h_pats.get hpk
   have hpp:=hsp.2 p (List.mem_of_getElem? hpk)
   have hp6':=hpt p (List.mem_of_getElem? hpk)
   have d0:=zaa hb c0
   have d1:=zaa hb c1
   have d2:=zaa hb c2
   have HD:Hid (x.pats.drop k=p :: x.pats.drop (k+1)):=zan hpk
   have hBa:∀ o,Below w.heap.size w (wr.alloc o):=fun o=>hb.alloc hb.size _
   clear c0 c1 c2 hbox
   cases hn':p.neg
   ·have hKN:=zaW (fun w' h1 h2=>zkY p a_terms c_terms (w.heap.size+1) n D known (q:=q) w w' h1 h_terms (hpp.2.mono zbj (Tm.mono zbj)) hpp.2.1 h2 hI (by omega) (by omega) hn')
    rw [hn'] at d0 hKN
    cases hT:zap p.terms known with
    | none=>
     rw [hT] at hKN
     have HN:Hid (scope x=some (k+1)):=show scope x=_ from by rw [HH.out,HG.out,HD.out,zbN,hT]
     go_wp2_with (go_at_call 132;refine (hKN.out _ (hBa _) (HM.out.alloc _)).mono ?_;rintro e w1 ⟨rfl,hb1,_⟩)
     go_ret
     exact ⟨zaX (by rw [HN.out];simp [item0]),(hBa _).trans (hb1.mono (by omega))⟩
    | some here=>
     rw [hT] at hKN
     have HN:Hid (zbd x.pats [] 1=zbd (x.pats.drop (k+1)) here (k+1+1)):=show zbd x.pats [] 1=_ from by rw [HG.out,HD.out,zbN,hT,hn'];rfl
     go_wp2_with (go_at_call 132;refine (hKN.out _ (hBa _) (HM.out.alloc _)).mono ?_;rintro e w1 ⟨rfl,hb1,hh⟩)
     obtain ⟨n2,D2,hn2,ho2,hI2⟩:=hh here rfl
     go_roundw
     case rel=>exact ⟨k+1,n2,here,D2,by omega,by go_num,HN.out,by omega,ho2,hI2,(HBX.out.below ((Below.refl _ _).alloc (Nat.le_refl _) _)).belowB hb1 (by omega),(hBa _).trans (hb1.mono (by omega))⟩
     case measure=>simp [intOf];omega
   ·have hKN:=zaW (fun w' h1 h2=>zkM p a_terms c_terms (w.heap.size+1) n D known (q:=q) w w' h1 h_terms (hpp.2.mono zbj (Tm.mono zbj)) hpp.2.1 h2 hI (by omega) hn')
    rw [hn'] at d0 hKN
    cases hT:zap p.terms known with
    | none=>
     rw [hT] at hKN
     have HN:Hid (scope x=some (k+1)):=show scope x=_ from by rw [HH.out,HG.out,HD.out,zbN,hT]
     go_wp2_with (go_at_call 132;refine (hKN.out _ (hBa _) (HM.out.alloc _)).mono ?_;rintro e w1 ⟨rfl,hb1⟩)
     go_ret
     exact ⟨zaX (by rw [HN.out];simp [item0]),(hBa _).trans (hb1.mono (hBa _).size)⟩
    | some here=>
     rw [hT] at hKN
     have HN:Hid (zbd x.pats [] 1=zbd (x.pats.drop (k+1)) known (k+1+1)):=show zbd x.pats [] 1=_ from by rw [HG.out,HD.out,zbN,hT,hn'];rfl
     go_wp2_with (go_at_call 132;refine (hKN.out _ (hBa _) (HM.out.alloc _)).mono ?_;rintro e w1 ⟨rfl,hb1⟩)
     have ho2:=zme (HM.out.alloc _) hb1
     go_roundw
     case rel=>exact ⟨k+1,n,known,D,by omega,by go_num,HN.out,by omega,ho2,hI,(HBX.out.below ((Below.refl _ _).alloc (Nat.le_refl _) _)).below hb1,(hBa _).trans (hb1.mono (hBa _).size)⟩
     case measure=>simp [intOf];omega
  ·have HN:Hid (scope x=zdy x known):=show scope x=_ from by rw [HH.out,HG.out,List.drop_eq_nil_of_le (by omega)];rfl
   obtain ⟨q0,q1,q2,q3,q4⟩:=hbox
   go_wp2
   clear q0 q1 q2 q3 q4
   go_loopw [28] (fun i wr'=>∃ (k:Nat),k≤x.acts.length∧i=.int .i64 k∧zdy x known=zaD (zbW x.exprs known) (x.acts.drop k) (x.pats.length+1+k)∧NMap wr' (w.heap.size+1) n D∧zcf wr' w.heap.size x a_pats c_pats a_exprs c_exprs a_acts c_acts∧Below w.heap.size w wr') (fun i _=>x.acts.length - (intOf i).toNat)
   case atStart=>exact ⟨0,by omega,rfl,rfl,HM.out,HBX.out,hb⟩
   case round=>
    clear HG HBX HM hb hk hn hml
    obtain ⟨k,hk,rfl,hG,hown,hbox,hb⟩:=hrel
    have HG:=zaW hG
    have HBX:=zaW hbox
    have HM:=zaW hown
    have hml:=hown.lt
    clear hG hown
    by_cases hkl2:k<x.acts.length
    ·obtain ⟨y,hyk⟩:∃ y,x.acts[k]?=some y:=⟨x.acts[k],by simp [hkl2]⟩
     obtain ⟨b,o,a_args,c_args,rfl,hq,c0,c1,c2,c3,h_args⟩:=(h_acts.below hb).get hyk
     have hyy:=hargs y (List.mem_of_getElem? hyk)
     have hyl:=(hsa.2 y (List.mem_of_getElem? hyk)).2
     have HD:Hid (x.acts.drop k=y :: x.acts.drop (k+1)):=zan hyk
     have hBa:∀ o,Below w.heap.size w (wr.alloc o):=fun o=>hb.alloc hb.size _
     have hBw:∀ o,Below wr.heap.size wr (wr.alloc o):=fun o=>(Below.refl _ _).alloc (Nat.le_refl _) _
     obtain ⟨q0,q1,q2,q3,q4⟩:=hbox
     by_cases hne:y.args.length=0
     ·have HK:Hid (zbW x.exprs known y=true):=show zbW x.exprs known y=true from by simp [zbW,List.eq_nil_of_length_eq_zero hne]
      have HX:Hid (zdy x known=zaD (zbW x.exprs known) (x.acts.drop (k+1)) (x.pats.length+1+(k+1))):=show zdy x known=_ from by rw [HG.out,HD.out,zaA,HK.out];rfl
      have hd0:decide (0<y.args.length)=false:=decide_eq_false (by omega)
      have hd1:decide ((0:Int)<(y.args.length:Int))=false:=decide_eq_false (by omega)
      clear q0 q1 q2 q4
      go_wp2
      go_quiet (fail)
      go_wp2
      go_roundw
      case rel=>exact ⟨k+1,by omega,by go_num,HX.out,HM.out.alloc _,HBX.out.below (zaN (hBw _)),zaN (hBa _)⟩
      case measure=>simp [intOf];omega
     ·obtain ⟨ln,hln⟩:∃ ln,y.args.length=ln+1:=⟨y.args.length - 1,by omega⟩
      obtain ⟨vl,hvl⟩:∃ v,y.args[ln]?=some v:=⟨y.args[ln]'(by omega),by simp⟩
      obtain ⟨hv0,hv1⟩:=hyy vl (List.mem_of_getElem? hvl)
      obtain ⟨vn,rfl⟩:=Int.eq_ofNat_of_zero_le hv0
      have hvn:vn<x.exprs.length:=by omega
      obtain ⟨ba,oa,ea,hqa,ca⟩:=h_args.get hvl
      subst ea
      obtain ⟨be,oe,ee,_⟩:=h_exprs.get (List.getElem?_eq_getElem hvn)
      subst ee
      have HU:Hid (zbW x.exprs known y=(x.exprs.take (vn+1)).all (zbc known)):=show zbW x.exprs known y=_ from by
       have h1:y.args.isEmpty=false:=by
        cases h:y.args with
        | nil=>simp [h] at hln
        | cons v r=>rfl
       have h2:upTo y=vn+1:=by
        unfold upTo
        rw [List.getLast?_eq_getElem?,hln,Nat.add_sub_cancel,hvl]
        rfl
       unfold zbW
       rw [h1,h2]
       rfl
      have hlen:(x.exprs.take (vn+1)).length=vn+1:=by simp;omega
      have hCV:=zaW (fun w' (h1:NMap w' (w.heap.size+1) n D) (h2:Below w.heap.size w w')=>zlv (w.heap.size+1) n D known (some ⟨be,oe,none⟩) c_exprs (x.exprs.take (vn+1)) w' (q:=q) h1 hI (zaJ.take (h_exprs.below h2) (vn+1)) (by omega) (fun e he=>Nat.le_trans (hse.2 e (List.mem_of_mem_take he)).1 zbj))
      rw [hlen] at hCV
      have z0:(0:Int)≤(vn:Int)+1:=by omega
      have z1:(vn:Int)+1≤(c_exprs:Int):=by omega
      have z2:(ln:Int)<(ln:Int)+1:=by omega
      have hln60:ln≤1048576:=by omega
      have hw1:IntKind.i64.wrap ((ln:Int)+1 - 1)=(ln:Int):=by rw [show (ln:Int)+1 - 1=(ln:Int) by omega,IntKind.wrap_i64];omega
      have hw2:IntKind.i64.wrap (((ln+1:Nat):Int) - 1)=(ln:Int):=by rw [show ((ln+1:Nat):Int) - 1=(ln:Int) by omega,IntKind.wrap_i64];omega
      have hw3:IntKind.i64.wrap (ln:Int)=(ln:Int):=by rw [IntKind.wrap_i64];omega
      have hw4:IntKind.i64.wrap ((vn:Int)+1)=(vn:Int)+1:=by rw [IntKind.wrap_i64];omega
      have z3:(0:Int)≤(ln:Int):=by omega
      have z4:(ln:Int)<((ln+1:Nat):Int):=by omega
      have z5:(vn:Int)+1≤(x.exprs.length:Int):=by omega
      have hvn60:vn<60:=by omega
      rw [hln] at c3
      have hcv0:(wr.alloc (.cells #[.int .i64 y.kind,.int .i64 y.k,.string y.cls,.slice (some ⟨ba,oa,none⟩) (ln+1) c_args] 200)).cell? ⟨ba,oa+ln,none⟩=some (.int .i64 (vn:Int)):=zaa (hBw _) ca
      have hq3':(wr.alloc (.cells #[.int .i64 y.kind,.int .i64 y.k,.string y.cls,.slice (some ⟨ba,oa,none⟩) (ln+1) c_args] 200)).cell? ⟨w.heap.size,3,none⟩=some (.slice (some ⟨be,oe,none⟩) x.exprs.length c_exprs):=zaa (hBw _) q3
      clear q0 q1 q4 ca hyy hne
      have hd0:decide (0<ln+1)=true:=decide_eq_true (by omega)
      cases hcov:(x.exprs.take (vn+1)).all (zbc known)
      ·rw [hcov] at hCV HU
       have HX:Hid (scope x=some (x.pats.length+1+k)):=show scope x=_ from by rw [HN.out,HG.out,HD.out,zaA,HU.out];rfl
       go_wp2
       clear q3 c0 c1 c2 c3
       first
       | (go_region_held3 (fun w'=>w'.cell? ⟨w.heap.size,3,none⟩=some (.slice (some ⟨be,oe,none⟩) x.exprs.length c_exprs)∧w'.cell? ⟨wr.heap.size,3,none⟩=some (.slice (some ⟨ba,oa,none⟩) (ln+1) c_args)∧w'.cell? ⟨ba,oa+ln,none⟩=some (.int .i64 (vn:Int))) ((go_split_ands;refine ⟨?_,?_,?_⟩ <;> first | (simp [go_sem,hcv0,hq3'];done) | exact zaa hb' (by assumption))) (first | (go_at_call 133;refine (hCV.out _ (HM.out.alloc _).drew ((hBa _).drew)).mono ?_;rintro e w' ⟨rfl,hb'⟩;have r2:=zaa hb' (zaa ((hBw _).drew) q2)) | fail))
       | fail
       go_wp2
       go_ret
       exact ⟨zaX (by rw [HX.out];simp [item0];omega),(hBa _).drew.trans (hb'.mono (by have:=(hBa (.map #[] 0)).size;simp;omega))⟩
      ·rw [hcov] at hCV HU
       have HX:Hid (zdy x known=zaD (zbW x.exprs known) (x.acts.drop (k+1)) (x.pats.length+1+(k+1))):=show zdy x known=_ from by rw [HG.out,HD.out,zaA,HU.out];rfl
       go_wp2
       clear q3 c0 c1 c2 c3
       first
       | (go_region_held3 (fun w'=>w'.cell? ⟨w.heap.size,3,none⟩=some (.slice (some ⟨be,oe,none⟩) x.exprs.length c_exprs)∧w'.cell? ⟨wr.heap.size,3,none⟩=some (.slice (some ⟨ba,oa,none⟩) (ln+1) c_args)∧w'.cell? ⟨ba,oa+ln,none⟩=some (.int .i64 (vn:Int))) ((go_split_ands;refine ⟨?_,?_,?_⟩ <;> first | (simp [go_sem,hcv0,hq3'];done) | exact zaa hb' (by assumption))) (first | (go_at_call 133;refine (hCV.out _ (HM.out.alloc _).drew ((hBa _).drew)).mono ?_;rintro e w' ⟨rfl,hb'⟩;have r2:=zaa hb' (zaa ((hBw _).drew) q2)) | fail))
       | fail
       go_wp2
       go_roundw
       case rel=>exact ⟨k+1,by omega,by go_num,HX.out,zme (HM.out.alloc _).drew hb',(HBX.out.below (hBw _).drew).below hb',(hBa _).drew.trans (hb'.mono (by have:=(hBa (.map #[] 0)).size;simp;omega))⟩
       case measure=>simp [intOf];omega
    ·go_wp2
     go_ret
     exact ⟨zaX (by rw [HN.out,HG.out,List.drop_eq_nil_of_le (by omega)];rfl),hb⟩
end Go.Proofs.YtmmdlgjmplddiaaGreat
namespace Go.Proofs.YtmmdlgjmplddiaaGreat
open Go.RowKit
attribute [local go_sem ↓] Go.wp_at_zero Go.wp_at_succ
theorem zbq (y:Ac) (k1 k2 k3 k4:Bool) (x:Bool) (h1:(y.kind==1)=k1) (h2:(y.kind==2)=k2) (h3:(y.kind==3)=k3) (h4:(y.kind==4)=k4) (h:x=(if k1 then gCls y.cls && y.k==0
  else if k2 then (y.cls.toList.isEmpty && (decide (-1000000≤y.k) && decide (y.k≤1000000))) && ((y.args.length:Int)==0)
  else if k3 then y.cls.toList.isEmpty && (decide (-1000000≤y.k) && decide (y.k≤1000000))
  else if k4 then y.cls.toList.isEmpty && (y.k==0 && ((y.args.length:Int)==0))
  else false)):x=zaz y:=by
 have L:y.args.isEmpty=((y.args.length:Int)==0):=by
  cases y.args with
  | nil=>rfl
  | cons v r=>simp;omega
 rw [h,← h1,← h2,← h3,← h4,← L]
 rfl
set_option maxHeartbeats 800000 in
theorem zcC (y:Ac) (a_args:Option Addr) (c_args:Nat) (w:World) (hcl:y.cls.size≤maxLen) :
  Calls Tryz.prog 152 #[.agg #[.int .i64 y.kind,.int .i64 y.k,.string y.cls,.slice a_args y.args.length c_args]] w fun e w'=>
   e=.returned (.bool (zaz y))∧Below w.heap.size w w':=by
 have B1:∀ o,Below w.heap.size w (w.alloc o):=fun o=>(Below.refl _ _).alloc (Nat.le_refl _) _
 cases he:y.cls.toList.isEmpty
 ·by_cases k1:y.kind=1
  ·cases hg:gCls y.cls
   all_goals
    go_enter Tryz.func152,Tryz.ntmps152
    go_wp2_with (go_at_call 134;refine (zb7 y.cls _ hcl).mono ?_;rintro e w' ⟨rfl,rfl⟩)
    go_ret
    exact ⟨zac (zbq y true false false false _ (by simp [k1]) (by simp [k1]) (by simp [k1]) (by simp [k1]) (by simp [hg])),B1 _⟩
  by_cases k2:y.kind=2
  ·go_enter Tryz.func152,Tryz.ntmps152
   go_wp2
   go_ret
   exact ⟨zac (zbq y false true false false _ (by simp [k2]) (by simp [k2]) (by simp [k2]) (by simp [k2]) (by simp [he])),B1 _⟩
  by_cases k3:y.kind=3
  ·go_enter Tryz.func152,Tryz.ntmps152
   go_wp2
   go_ret
   exact ⟨zac (zbq y false false true false _ (by simp [k3]) (by simp [k3]) (by simp [k3]) (by simp [k3]) (by simp [he])),B1 _⟩
  by_cases k4:y.kind=4
  ·go_enter Tryz.func152,Tryz.ntmps152
   go_wp2
   go_ret
   exact ⟨zac (zbq y false false false true _ (by simp [k4]) (by simp [k4]) (by simp [k4]) (by simp [k4]) (by simp [he])),B1 _⟩
  ·go_enter Tryz.func152,Tryz.ntmps152
   go_wp2
   go_ret
   exact ⟨zac (zbq y false false false false _ (by simpa using k1) (by simpa using k2) (by simpa using k3) (by simpa using k4) rfl),B1 _⟩
 ·have hb:(-1000000≤y.k∧y.k≤1000000)∨(¬ -1000000≤y.k∧y.k≤1000000)∨(-1000000≤y.k∧¬ y.k≤1000000):=by omega
  rcases hb with ⟨b1,b2⟩ | ⟨b1,b2⟩ | ⟨b1,b2⟩
  all_goals
   by_cases k1:y.kind=1
   ·cases hg:gCls y.cls
    all_goals
     go_enter Tryz.func152,Tryz.ntmps152
     go_wp2_with (go_at_call 134;refine (zb7 y.cls _ hcl).mono ?_;rintro e w' ⟨rfl,rfl⟩)
     go_ret
     exact ⟨zac (zbq y true false false false _ (by simp [k1]) (by simp [k1]) (by simp [k1]) (by simp [k1]) (by simp [hg])),B1 _⟩
   by_cases k2:y.kind=2
   ·go_enter Tryz.func152,Tryz.ntmps152
    go_wp2
    go_ret
    exact ⟨zac (zbq y false true false false _ (by simp [k2]) (by simp [k2]) (by simp [k2]) (by simp [k2]) (by simp [he,b1,b2] <;> intros <;> omega)),B1 _⟩
   by_cases k3:y.kind=3
   ·go_enter Tryz.func152,Tryz.ntmps152
    go_wp2
    go_ret
    exact ⟨zac (zbq y false false true false _ (by simp [k3]) (by simp [k3]) (by simp [k3]) (by simp [k3]) (by simp [he,b1,b2] <;> intros <;> omega)),B1 _⟩
   by_cases k4:y.kind=4
   ·by_cases z0:y.k=0
    ·first
     | (exfalso;omega)
     | (go_enter Tryz.func152,Tryz.ntmps152
        go_wp2
        go_ret
        exact ⟨zac (zbq y false false false true _ (by simp [k4]) (by simp [k4]) (by simp [k4]) (by simp [k4]) (by simp [he,z0])),(Below.refl _ _).alloc (Nat.le_refl _) _⟩)
    ·go_enter Tryz.func152,Tryz.ntmps152
     go_wp2
     go_ret
     exact ⟨zac (zbq y false false false true _ (by simp [k4]) (by simp [k4]) (by simp [k4]) (by simp [k4]) (by simp [he,z0])),(Below.refl _ _).alloc (Nat.le_refl _) _⟩
   ·go_enter Tryz.func152,Tryz.ntmps152
    go_wp2
    go_ret
    exact ⟨zac (zbq y false false false false _ (by simpa using k1) (by simpa using k2) (by simpa using k3) (by simpa using k4) rfl),B1 _⟩
end Go.Proofs.YtmmdlgjmplddiaaGreat
