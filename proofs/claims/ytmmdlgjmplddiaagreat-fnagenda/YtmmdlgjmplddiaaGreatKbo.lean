/-
  OUR OWN TEXT. Ic9b, Ic10, one behind the other.
-/
import Derived.Test.YtmmdlgjmplddiaaGreatKbk
import Derived.Deep.RegionHeld3
import Derived.Deep.DrawnRows
import Derived.BigQuiet
import Derived.Test.YtmmdlgjmplddiaaGreatKat
namespace Go.Proofs.YtmmdlgjmplddiaaGreat
open Go.RowKit Go.Maps
attribute [local go_sem ↓] Go.wp_at_zero Go.wp_at_succ
set_option maxHeartbeats 3200000 in
theorem zlB (x:Pt) (a:Option Addr) (c b n:Nat) (D:DataW Unit) (known:List ByteArray) {q:Option Nat} (w0 w:World) (hb0:Below w0.heap.size w0 w) (hv:zcl q w0 a x.terms) (hs:zbu Tm.le maxLen x.terms) (hl:x.terms.length≤1048576) (hown0:NMap w b n D) (hI:NInv known D) (hn:n≤1048576) (hneg:x.neg=true) :
  Calls Tryz.prog 132 #[.agg #[.bool x.neg,.string x.cls,.slice a x.terms.length c],.map (some b)] w fun e w'=>
   e=.returned (.bool (zap x.terms known).isSome)∧Below w.heap.size w w':=by
 have hbw:=hown0.lt
 rw [hneg]
 go_enter Tryz.func132,Tryz.ntmps132
 have hw0:=hb0.size
 go_wp2_with (go_at_call 153;refine (zlX b n D _ (hown0.alloc _)).mono ?_;rintro e w1 ⟨rfl,hoc,hbc⟩;have q2:w1.cell? ⟨w.heap.size,2,none⟩=some (.slice a x.terms.length c):=zaa hbc (by simp [go_sem]))
 have hoc':NMap w1 (w.heap.size+1) n D:=by simpa using hoc
 have hB1:Below w.heap.size w w1:=((Below.refl _ _).alloc (Nat.le_refl _) _).trans (hbc.mono (by simp))
 clear hoc hbc q2 hbw hown0
 go_loopw [14] (fun i wr=>∃ (k n':Nat) (here:List ByteArray) (D':DataW Unit),k≤x.terms.length∧i=.int .i64 k∧zap x.terms known=zap (x.terms.drop k) here∧n'≤n+k∧NMap wr (w.heap.size+1) n' D'∧NInv here D'∧Below (w.heap.size) w wr) (fun i _=>x.terms.length - (intOf i).toNat)
 case atStart=>exact ⟨0,n,known,D,by omega,rfl,rfl,by omega,hoc',hI,hB1⟩
 case round=>
  obtain ⟨k,n',here,D',hk,rfl,hG,hn',hown,hI',hb⟩:=hrel
  have HG:=zaU hG
  clear hG
  have hbl:=hown.lt
  by_cases hkl:k<x.terms.length
  ·obtain ⟨t,htk⟩:∃ t,x.terms[k]?=some t:=⟨x.terms[k],by simp [hkl]⟩
   obtain ⟨b',o,rfl,hq,c0,c1,c2,c3,c4,c5⟩:=(hv.below (hb0.trans (hb.mono (by omega)))).get htk
   have hst:=(hs.2 t (List.mem_of_getElem? htk)).1
   have HD:Hid (x.terms.drop k=t :: x.terms.drop (k+1)):=zak htk
   have hBa:∀ o,Below (w.heap.size) w (wr.alloc o):=fun o=>hb.alloc (by have:=hb.size;omega) _
   have hOa:∀ o,NMap (wr.alloc o) (w.heap.size+1) n' D':=fun o=>hown.alloc o
   by_cases k2:t.kind=2
   ·have HN:Hid (zap x.terms known=zap (x.terms.drop (k+1)) (here ++ [t.var])):=show zap x.terms known=_ from by rw [HG.out,HD.out,zaX];simp [asks,k2]
    have hI2:=hI'.put (v:=t.var) hown.isMap (.lit (.bool true))
    obtain ⟨w2,hrun,ho2,hg2⟩:=(hown.alloc (.cells #[.int .i64 2,.int .i64 t.op,.string t.var,.int .i64 t.val.kind,.int .i64 t.val.num,.string t.val.sym] 115)).update lawS (t:=226) Tryz.underlying226 (by unfold maxLen;omega) (Go.WideMaps.keyOf_string_mk Tryz.underlying9 hst) (show ziA (.agg #[])=some (.lit (.bool true),[]) from rfl)
    have HO2:=zaU ho2
    have HG2:=zaU hg2
    have d0:w2.cell? ⟨wr.heap.size,0,none⟩=some (.int .i64 2):=by
     rw [zgy hg2 (by omega) (by simp)]
     simp [go_sem]
    have hBb:=hBa (.cells #[.int .i64 2,.int .i64 t.op,.string t.var,.int .i64 t.val.kind,.int .i64 t.val.num,.string t.val.sym] 115)
    have hB2:Below (w.heap.size) w w2:=hBb.grown hg2 (by have:=hb.size;simp;omega) (fun j hj=>by cases hj;omega)
    clear ho2 hg2 hOa hBa
    rw [k2] at c0
    go_wp2
    clear hrun
    go_roundw
    case rel=>exact ⟨k+1,n'+1,_,_,by omega,by go_num,HN.out,by omega,HO2.out,hI2,hB2⟩
    case measure=>simp [intOf];omega
   ·by_cases k3:t.kind=3∧t.var.toList.isEmpty=false
    ·obtain ⟨k3,v0⟩:=k3
     have hH:=zgZ (w.heap.size+1) n' D' here t.var hI' hst
     cases hm:memB t.var here
     all_goals
      rw [hm] at hH
      go_wp2_with (go_at_call 154;refine (hH.out _ (hOa _)).mono ?_;rintro e' w1 ⟨rfl,hb1⟩)
     ·have HN:Hid (zap x.terms known=none):=show zap x.terms known=none from by rw [HG.out,HD.out,zaX];simp [asks,k3,isE,hm];intro h;simp [h] at v0
      go_ret
      exact ⟨zac (by rw [HN.out];rfl),(hBa _).trans (hb1.mono (by simp;omega))⟩
     ·have HN:Hid (zap x.terms known=zap (x.terms.drop (k+1)) here):=show zap x.terms known=_ from by rw [HG.out,HD.out,zaX];simp [k3,hm]
      go_roundw
      case rel=>exact ⟨k+1,n',_,_,by omega,by go_num,HN.out,by omega,zm9 (hOa _) hb1,hI',(hBa _).trans (hb1.mono (by have:=(hBa default).size;have:=hb.size;simp;omega))⟩
      case measure=>simp [intOf];omega
    ·have HN:Hid (zap x.terms known=zap (x.terms.drop (k+1)) here):=show zap x.terms known=_ from by
      have ha:asks t=false:=by
       unfold asks isE
       by_cases h3:t.kind=3
       ·have:t.var.toList.isEmpty=true:=by cases h:t.var.toList.isEmpty <;> simp_all
        simp [this]
       ·simp [h3]
      rw [HG.out,HD.out,zaX,ha]
      simp [k2]
     by_cases h3:t.kind=3
     ·have hve:t.var.toList.isEmpty=true:=by cases h:t.var.toList.isEmpty <;> simp_all
      clear k3
      go_wp2
      go_roundw
      case rel=>exact ⟨k+1,n',_,_,by omega,by go_num,HN.out,by omega,hOa _,hI',hBa _⟩
      case measure=>simp [intOf];omega
     ·clear k3
      go_wp2
      go_roundw
      case rel=>exact ⟨k+1,n',_,_,by omega,by go_num,HN.out,by omega,hOa _,hI',hBa _⟩
      case measure=>simp [intOf];omega
  ·have HN:Hid (zap x.terms known=some here):=show zap x.terms known=_ from by
    rw [HG.out,List.drop_eq_nil_of_le (by omega)]
    rfl
   go_wp2
   go_ret
   exact ⟨zac (by rw [HN.out];rfl),hb⟩
end Go.Proofs.YtmmdlgjmplddiaaGreat
namespace Go.Proofs.YtmmdlgjmplddiaaGreat
open Go.RowKit Go.Maps
attribute [local go_sem ↓] Go.wp_at_zero Go.wp_at_succ
theorem zb8.belowB {w w':World}{b B:Nat}{x:Ru}{a_pats:Option Addr}{c_pats:Nat}{a_exprs:Option Addr}{c_exprs:Nat}{a_acts:Option Addr}{c_acts:Nat} (h:zb8 w b x a_pats c_pats a_exprs c_exprs a_acts c_acts) (hb:Below B w w') (hB:b<B):zb8 w' b x a_pats c_pats a_exprs c_exprs a_acts c_acts:=by
 obtain ⟨h0,h1,h2,h3,h4⟩:=h
 exact ⟨(hb.cell (p:=⟨b,0,none⟩) hB).trans h0,(hb.cell (p:=⟨b,1,none⟩) hB).trans h1,(hb.cell (p:=⟨b,2,none⟩) hB).trans h2,(hb.cell (p:=⟨b,3,none⟩) hB).trans h3,(hb.cell (p:=⟨b,4,none⟩) hB).trans h4⟩
theorem zbO (p:Pt) (r:List Pt) (known:List ByteArray) (k:Nat):za9 (p :: r) known k=match zap p.terms known with | none=>.inl k | some here=>za9 r (if p.neg then known else here) (k+1):=rfl
def zdA (x:Ru) (known:List ByteArray):Option Nat:=zaB (zbU x.exprs known) x.acts (x.pats.length+1)
theorem zgQ (x:Ru):scope x=match za9 x.pats [] 1 with | .inl i=>some i | .inr known=>zdA x known:=by
 unfold scope zdA
 cases za9 x.pats [] 1 <;> rfl
set_option maxHeartbeats 800000 in
theorem zfY (x:Ru) (a_pats:Option Addr) (c_pats:Nat) (a_exprs:Option Addr) (c_exprs:Nat) (a_acts:Option Addr) (c_acts:Nat) {q:Option Nat} (w:World) (h_pats:zcf q w a_pats x.pats) (h_exprs:zbw q w a_exprs x.exprs) (h_acts:zcO q w a_acts x.acts) (hle:x.le 1048576) (hp6:x.pats.length≤6) (hpt:∀ p∈x.pats,p.terms.length≤6) (hargs:∀ y∈x.acts,∀ v∈y.args,0≤v∧v<(x.exprs.length:Int)) (hcap:x.exprs.length≤c_exprs) (he60:x.exprs.length≤60) :
  Calls Tryz.prog 101 #[.agg #[.string x.name,.int .i64 x.sal,.slice a_pats x.pats.length c_pats,.slice a_exprs x.exprs.length c_exprs,.slice a_acts x.acts.length c_acts]] w fun e w'=>e=.returned (.int .i64 (item0 (scope x)))∧Below w.heap.size w w':=by
 obtain ⟨hsn0,hsp,hse,hsa⟩:=hle
 have hel:=hse.1
 have hal:=hsa.1
 obtain ⟨HH⟩:Nonempty (Hid (scope x=match za9 x.pats [] 1 with | .inl i=>some i | .inr known=>zdA x known)):=⟨zgQ x⟩
 have hmm:=fun w=>run_makeMap (P:=Tryz.prog) 226 w
 go_enter Tryz.func101,Tryz.ntmps101
 go_wp2
 clear hmm
 go_loopw [13] (fun i wr=>∃ (k n:Nat) (known:List ByteArray) (D:DataW Unit),k≤x.pats.length∧i=.int .i64 k∧za9 x.pats [] 1=za9 (x.pats.drop k) known (k+1)∧n≤6 * k∧NMap wr (w.heap.size+1) n D∧NInv known D∧zb8 wr w.heap.size x a_pats c_pats a_exprs c_exprs a_acts c_acts∧Below w.heap.size w wr) (fun i _=>x.pats.length - (intOf i).toNat)
 case atStart=>
  refine ⟨0,0,[],.map [],by omega,rfl,rfl,by omega,?_,NInv.start,(zb8.made w 35 x a_pats c_pats a_exprs c_exprs a_acts c_acts).below ((Below.refl _ _).alloc (Nat.le_refl _) _),((Below.refl _ _).alloc (Nat.le_refl _) _).alloc (by simp) _⟩
  have:=World.ownsMap_made (H:=Unit) (w.alloc (.cells #[.string x.name,.int .i64 x.sal,.slice a_pats x.pats.length c_pats,.slice a_exprs x.exprs.length c_exprs,.slice a_acts x.acts.length c_acts] 35)) Tryz.prog 9 ziA
  simpa using this
 case round=>
  obtain ⟨k,n,known,D,hk,rfl,hG,hn,hown,hI,hbox,hb⟩:=hrel
  have HG:=zaU hG
  have HBX:=zaU hbox
  have HM:=zaU hown
  have hml:=hown.lt
  clear hG hown
  by_cases hkl:k<x.pats.length
  ·obtain ⟨p,hpk⟩:∃ p,x.pats[k]?=some p:=⟨x.pats[k],by simp [hkl]⟩
   obtain ⟨b,o,a_terms,c_terms,rfl,hq,c0,c1,c2,h_terms⟩:=h_pats.get hpk
   have hpp:=hsp.2 p (List.mem_of_getElem? hpk)
   have hp6':=hpt p (List.mem_of_getElem? hpk)
   have d0:=zaa hb c0
   have d1:=zaa hb c1
   have d2:=zaa hb c2
   have HD:Hid (x.pats.drop k=p :: x.pats.drop (k+1)):=zak hpk
   have hBa:∀ o,Below w.heap.size w (wr.alloc o):=fun o=>hb.alloc hb.size _
   clear c0 c1 c2 hbox
   cases hn':p.neg
   ·have hKN:=zaU (fun w' h1 h2=>zlN p a_terms c_terms (w.heap.size+1) n D known (q:=q) w w' h1 h_terms (hpp.2.mono zbf (Tm.mono zbf)) hpp.2.1 h2 hI (by omega) (by omega) hn')
    rw [hn'] at d0 hKN
    cases hT:zap p.terms known with
    | none=>
     rw [hT] at hKN
     have HN:Hid (scope x=some (k+1)):=show scope x=_ from by rw [HH.out,HG.out,HD.out,zbO,hT]
     go_wp2_with (go_at_call 132;refine (hKN.out _ (hBa _) (HM.out.alloc _)).mono ?_;rintro e w1 ⟨rfl,hb1,_⟩)
     go_ret
     exact ⟨zbk (by rw [HN.out];simp [item0]),(hBa _).trans (hb1.mono (by omega))⟩
    | some here=>
     rw [hT] at hKN
     have HN:Hid (za9 x.pats [] 1=za9 (x.pats.drop (k+1)) here (k+1+1)):=show za9 x.pats [] 1=_ from by rw [HG.out,HD.out,zbO,hT,hn'];rfl
     go_wp2_with (go_at_call 132;refine (hKN.out _ (hBa _) (HM.out.alloc _)).mono ?_;rintro e w1 ⟨rfl,hb1,hh⟩)
     obtain ⟨n2,D2,hn2,ho2,hI2⟩:=hh here rfl
     go_roundw
     case rel=>exact ⟨k+1,n2,here,D2,by omega,by go_num,HN.out,by omega,ho2,hI2,(HBX.out.below ((Below.refl _ _).alloc (Nat.le_refl _) _)).belowB hb1 (by omega),(hBa _).trans (hb1.mono (by omega))⟩
     case measure=>simp [intOf];omega
   ·have hKN:=zaU (fun w' h1 h2=>zlB p a_terms c_terms (w.heap.size+1) n D known (q:=q) w w' h1 h_terms (hpp.2.mono zbf (Tm.mono zbf)) hpp.2.1 h2 hI (by omega) hn')
    rw [hn'] at d0 hKN
    cases hT:zap p.terms known with
    | none=>
     rw [hT] at hKN
     have HN:Hid (scope x=some (k+1)):=show scope x=_ from by rw [HH.out,HG.out,HD.out,zbO,hT]
     go_wp2_with (go_at_call 132;refine (hKN.out _ (hBa _) (HM.out.alloc _)).mono ?_;rintro e w1 ⟨rfl,hb1⟩)
     go_ret
     exact ⟨zbk (by rw [HN.out];simp [item0]),(hBa _).trans (hb1.mono (hBa _).size)⟩
    | some here=>
     rw [hT] at hKN
     have HN:Hid (za9 x.pats [] 1=za9 (x.pats.drop (k+1)) known (k+1+1)):=show za9 x.pats [] 1=_ from by rw [HG.out,HD.out,zbO,hT,hn'];rfl
     go_wp2_with (go_at_call 132;refine (hKN.out _ (hBa _) (HM.out.alloc _)).mono ?_;rintro e w1 ⟨rfl,hb1⟩)
     have ho2:=zm9 (HM.out.alloc _) hb1
     go_roundw
     case rel=>exact ⟨k+1,n,known,D,by omega,by go_num,HN.out,by omega,ho2,hI,(HBX.out.below ((Below.refl _ _).alloc (Nat.le_refl _) _)).below hb1,(hBa _).trans (hb1.mono (hBa _).size)⟩
     case measure=>simp [intOf];omega
  ·have HN:Hid (scope x=zdA x known):=show scope x=_ from by rw [HH.out,HG.out,List.drop_eq_nil_of_le (by omega)];rfl
   obtain ⟨q0,q1,q2,q3,q4⟩:=hbox
   go_wp2
   clear q0 q1 q2 q3 q4
   go_loopw [28] (fun i wr'=>∃ (k:Nat),k≤x.acts.length∧i=.int .i64 k∧zdA x known=zaB (zbU x.exprs known) (x.acts.drop k) (x.pats.length+1+k)∧NMap wr' (w.heap.size+1) n D∧zb8 wr' w.heap.size x a_pats c_pats a_exprs c_exprs a_acts c_acts∧Below w.heap.size w wr') (fun i _=>x.acts.length - (intOf i).toNat)
   case atStart=>exact ⟨0,by omega,rfl,rfl,HM.out,HBX.out,hb⟩
   case round=>
    clear HG HBX HM hb hk hn hml
    obtain ⟨k,hk,rfl,hG,hown,hbox,hb⟩:=hrel
    have HG:=zaU hG
    have HBX:=zaU hbox
    have HM:=zaU hown
    have hml:=hown.lt
    clear hG hown
    by_cases hkl2:k<x.acts.length
    ·obtain ⟨y,hyk⟩:∃ y,x.acts[k]?=some y:=⟨x.acts[k],by simp [hkl2]⟩
     obtain ⟨b,o,a_args,c_args,rfl,hq,c0,c1,c2,c3,h_args⟩:=(h_acts.below hb).get hyk
     have hyy:=hargs y (List.mem_of_getElem? hyk)
     have hyl:=(hsa.2 y (List.mem_of_getElem? hyk)).2
     have HD:Hid (x.acts.drop k=y :: x.acts.drop (k+1)):=zak hyk
     have hBa:∀ o,Below w.heap.size w (wr.alloc o):=fun o=>hb.alloc hb.size _
     have hBw:∀ o,Below wr.heap.size wr (wr.alloc o):=fun o=>(Below.refl _ _).alloc (Nat.le_refl _) _
     obtain ⟨q0,q1,q2,q3,q4⟩:=hbox
     by_cases hne:y.args.length=0
     ·have HK:Hid (zbU x.exprs known y=true):=show zbU x.exprs known y=true from by simp [zbU,List.eq_nil_of_length_eq_zero hne]
      have HX:Hid (zdA x known=zaB (zbU x.exprs known) (x.acts.drop (k+1)) (x.pats.length+1+(k+1))):=show zdA x known=_ from by rw [HG.out,HD.out,zax,HK.out];rfl
      have hd0:decide (0<y.args.length)=false:=decide_eq_false (by omega)
      have hd1:decide ((0:Int)<(y.args.length:Int))=false:=decide_eq_false (by omega)
      clear q0 q1 q2 q4
      go_wp2
      go_quiet (fail)
      go_wp2
      go_roundw
      case rel=>exact ⟨k+1,by omega,by go_num,HX.out,HM.out.alloc _,HBX.out.below (zaM (hBw _)),zaM (hBa _)⟩
      case measure=>simp [intOf];omega
     ·obtain ⟨ln,hln⟩:∃ ln,y.args.length=ln+1:=⟨y.args.length - 1,by omega⟩
      obtain ⟨vl,hvl⟩:∃ v,y.args[ln]?=some v:=⟨y.args[ln]'(by omega),by simp⟩
      obtain ⟨hv0,hv1⟩:=hyy vl (List.mem_of_getElem? hvl)
      obtain ⟨vn,rfl⟩:=Int.eq_ofNat_of_zero_le hv0
      have hvn:vn<x.exprs.length:=by omega
      obtain ⟨ba,oa,ea,hqa,ca⟩:=h_args.get hvl
      subst ea
      obtain ⟨be,oe,ee,_⟩:=h_exprs.get (List.getElem?_eq_getElem hvn)
      subst ee
      have HU:Hid (zbU x.exprs known y=(x.exprs.take (vn+1)).all (za8 known)):=show zbU x.exprs known y=_ from by
       have h1:y.args.isEmpty=false:=by
        cases h:y.args with
        | nil=>simp [h] at hln
        | cons v r=>rfl
       have h2:upTo y=vn+1:=by
        unfold upTo
        rw [List.getLast?_eq_getElem?,hln,Nat.add_sub_cancel,hvl]
        rfl
       unfold zbU
       rw [h1,h2]
       rfl
      have hlen:(x.exprs.take (vn+1)).length=vn+1:=by simp;omega
      have hCV:=zaU (fun w' (h1:NMap w' (w.heap.size+1) n D) (h2:Below w.heap.size w w')=>zmj (w.heap.size+1) n D known (some ⟨be,oe,none⟩) c_exprs (x.exprs.take (vn+1)) w' (q:=q) h1 hI (zaD.take (h_exprs.below h2) (vn+1)) (by omega) (fun e he=>Nat.le_trans (hse.2 e (List.mem_of_mem_take he)).1 zbf))
      rw [hlen] at hCV
      have z0:(0:Int)≤(vn:Int)+1:=by omega
      have z1:(vn:Int)+1≤(c_exprs:Int):=by omega
      have z2:(ln:Int)<(ln:Int)+1:=by omega
      have hln60:ln≤1048576:=by omega
      have hw1:IntKind.i64.wrap ((ln:Int)+1 - 1)=(ln:Int):=by rw [show (ln:Int)+1 - 1=(ln:Int) by omega,IntKind.wrap_i64];omega
      have hw2:IntKind.i64.wrap (((ln+1:Nat):Int) - 1)=(ln:Int):=by rw [show ((ln+1:Nat):Int) - 1=(ln:Int) by omega,IntKind.wrap_i64];omega
      have hw3:IntKind.i64.wrap (ln:Int)=(ln:Int):=by rw [IntKind.wrap_i64];omega
      have hw4:IntKind.i64.wrap ((vn:Int)+1)=(vn:Int)+1:=by rw [IntKind.wrap_i64];omega
      have z3:(0:Int)≤(ln:Int):=by omega
      have z4:(ln:Int)<((ln+1:Nat):Int):=by omega
      have z5:(vn:Int)+1≤(x.exprs.length:Int):=by omega
      have hvn60:vn<60:=by omega
      rw [hln] at c3
      have hcv0:(wr.alloc (.cells #[.int .i64 y.kind,.int .i64 y.k,.string y.cls,.slice (some ⟨ba,oa,none⟩) (ln+1) c_args] 200)).cell? ⟨ba,oa+ln,none⟩=some (.int .i64 (vn:Int)):=zaa (hBw _) ca
      have hq3':(wr.alloc (.cells #[.int .i64 y.kind,.int .i64 y.k,.string y.cls,.slice (some ⟨ba,oa,none⟩) (ln+1) c_args] 200)).cell? ⟨w.heap.size,3,none⟩=some (.slice (some ⟨be,oe,none⟩) x.exprs.length c_exprs):=zaa (hBw _) q3
      clear q0 q1 q4 ca hyy hne
      have hd0:decide (0<ln+1)=true:=decide_eq_true (by omega)
      cases hcov:(x.exprs.take (vn+1)).all (za8 known)
      ·rw [hcov] at hCV HU
       have HX:Hid (scope x=some (x.pats.length+1+k)):=show scope x=_ from by rw [HN.out,HG.out,HD.out,zax,HU.out];rfl
       go_wp2
       clear q3 c0 c1 c2 c3
       first
       | (go_region_held3 (fun w'=>w'.cell? ⟨w.heap.size,3,none⟩=some (.slice (some ⟨be,oe,none⟩) x.exprs.length c_exprs)∧w'.cell? ⟨wr.heap.size,3,none⟩=some (.slice (some ⟨ba,oa,none⟩) (ln+1) c_args)∧w'.cell? ⟨ba,oa+ln,none⟩=some (.int .i64 (vn:Int))) ((go_split_ands;refine ⟨?_,?_,?_⟩ <;> first | (simp [go_sem,hcv0,hq3'];done) | exact zaa hb' (by assumption))) (first | (go_at_call 133;refine (hCV.out _ (HM.out.alloc _).drew ((hBa _).drew)).mono ?_;rintro e w' ⟨rfl,hb'⟩;have r2:=zaa hb' (zaa ((hBw _).drew) q2)) | fail))
       | fail
       go_wp2
       go_ret
       exact ⟨zbk (by rw [HX.out];simp [item0];omega),(hBa _).drew.trans (hb'.mono (by have:=(hBa (.map #[] 0)).size;simp;omega))⟩
      ·rw [hcov] at hCV HU
       have HX:Hid (zdA x known=zaB (zbU x.exprs known) (x.acts.drop (k+1)) (x.pats.length+1+(k+1))):=show zdA x known=_ from by rw [HG.out,HD.out,zax,HU.out];rfl
       go_wp2
       clear q3 c0 c1 c2 c3
       first
       | (go_region_held3 (fun w'=>w'.cell? ⟨w.heap.size,3,none⟩=some (.slice (some ⟨be,oe,none⟩) x.exprs.length c_exprs)∧w'.cell? ⟨wr.heap.size,3,none⟩=some (.slice (some ⟨ba,oa,none⟩) (ln+1) c_args)∧w'.cell? ⟨ba,oa+ln,none⟩=some (.int .i64 (vn:Int))) ((go_split_ands;refine ⟨?_,?_,?_⟩ <;> first | (simp [go_sem,hcv0,hq3'];done) | exact zaa hb' (by assumption))) (first | (go_at_call 133;refine (hCV.out _ (HM.out.alloc _).drew ((hBa _).drew)).mono ?_;rintro e w' ⟨rfl,hb'⟩;have r2:=zaa hb' (zaa ((hBw _).drew) q2)) | fail))
       | fail
       go_wp2
       go_roundw
       case rel=>exact ⟨k+1,by omega,by go_num,HX.out,zm9 (HM.out.alloc _).drew hb',(HBX.out.below (hBw _).drew).below hb',(hBa _).drew.trans (hb'.mono (by have:=(hBa (.map #[] 0)).size;simp;omega))⟩
       case measure=>simp [intOf];omega
    ·go_wp2
     go_ret
     exact ⟨zbk (by rw [HN.out,HG.out,List.drop_eq_nil_of_le (by omega)];rfl),hb⟩
end Go.Proofs.YtmmdlgjmplddiaaGreat
