/-
  OUR OWN TEXT. Sc6, Ic12, one behind the other.
-/
import Derived.Test.YtmmdlgjmplddiaaGreatHbk
import Derived.Deep.DrawnRows
import Derived.BigQuiet
import Derived.Deep.RegionHeld3
namespace Go.Proofs.YtmmdlgjmplddiaaGreat
open Go.RowKit
attribute [local go_sem ↓] Go.wp_at_zero Go.wp_at_succ
set_option maxHeartbeats 3200000 in
theorem zhY (x:Ru) (a_pats:Option Addr) (c_pats:Nat) (a_exprs:Option Addr) (c_exprs:Nat) (a_acts:Option Addr) (c_acts:Nat) {q:Option Nat} (w:World) (h_pats:zbY q w a_pats x.pats) (h_exprs:za8 q w a_exprs x.exprs) (h_acts:zcu q w a_acts x.acts) (hle:x.le 1048576) (hsh:shape x=none) :
  Calls Tryz.prog 118 #[.agg #[.string x.name,.int .i64 x.sal,.slice a_pats x.pats.length c_pats,.slice a_exprs x.exprs.length c_exprs,.slice a_acts x.acts.length c_acts]] w fun e w'=>e=.returned (.int .i64 (zeI (scope x)))∧Below w.heap.size w w':=by
 obtain ⟨hsn0,hsp,hse,hsa⟩:=hle
 obtain ⟨hp6,ha8,he60,hpt,hfull,hargs⟩:=zed hsh
 obtain ⟨SS,hSS⟩:∃ S,S=zas [] x.exprs:=⟨_,rfl⟩
 have hSp:Spans x.exprs SS:=by rw [hSS];exact (zcq (Spans.nil _) rfl).1
 have hAG:zb6 SS x.acts 0 1=none:=by rw [hSS];exact zjV hsh
 rw [← hSS] at hfull
 have HSP:=zaW hSp
 have HAG:=zaW hAG
 have HFL:=zaW hfull
 have HAR:=zaW hargs
 have HPT:=zaW hpt
 have HSE:=zaW hse
 have HSA:=zaW hsa
 have HSPP:=zaW hsp
 clear hSS hSp hAG hfull hargs hpt hsh hse hsa hsp
 obtain ⟨HH⟩:Nonempty (Hid (scope x=match zbd x.pats [] 1 with | .inl i=>some i | .inr known=>zdy x known)):=⟨zgL x⟩
 have B0:∀ o,Below w.heap.size w (w.alloc o):=fun o=>(Below.refl _ _).alloc (Nat.le_refl _) _
 go_enter Tryz.func118,Tryz.ntmps118
 go_wp2
 go_loopw [3,16] (fun kv i wr=>∃ (k:Nat) (known:List ByteArray) (a:Option Addr) (c:Nat),k≤x.pats.length∧i=.int .i64 k∧kv=.slice a known.length c∧zbd x.pats [] 1=zbd (x.pats.drop k) known (k+1)∧known.length≤6 * k∧(a=none→known.length=0)∧zcJ none wr a known∧zcf wr w.heap.size x a_pats c_pats a_exprs c_exprs a_acts c_acts∧Below w.heap.size w wr) (fun _ i _=>x.pats.length - (intOf i).toNat)
 case atStart=>exact ⟨0,[],none,0,by omega,rfl,rfl,rfl,by simp,fun _=>rfl,zaJ.nil,zcf.made _ _ _ _ _ _ _ _ _,B0 _⟩
 case round=>
  obtain ⟨k,known,a,c,hk,rfl,rfl,hG,hkn,hnil,hst,hbox,hb⟩:=hrel
  have HG:=zaW hG
  have HBX:=zaW hbox
  have HST:=zaW hst
  have HNIL:=zaW hnil
  clear hG hst hnil
  have hwl:w.heap.size<wr.heap.size:=zgr hbox.1
  by_cases hkl:k<x.pats.length
  ·obtain ⟨p,hpk⟩:∃ p,x.pats[k]?=some p:=⟨x.pats[k],by simp [hkl]⟩
   obtain ⟨b,o,a_terms,c_terms,rfl,hq,c0,c1,c2,h_terms⟩:=(h_pats.below hb).get hpk
   have hpp:=HSPP.out.2 p (List.mem_of_getElem? hpk)
   have hp6':=HPT.out p (List.mem_of_getElem? hpk)
   have HD:Hid (x.pats.drop k=p :: x.pats.drop (k+1)):=zan hpk
   have HTM:=zaW h_terms
   obtain ⟨wo,rfl⟩:∃ u,u=wr:=⟨wr,rfl⟩
   have B1:∀ o,Below wo.heap.size wo (wo.alloc o):=fun o=>(Below.refl _ _).alloc (Nat.le_refl _) _
   clear hbox h_terms
   go_wp2_with (at_builtin;refine zae (by rfl) (.tmp 21) (.tmp 22) 202 (by rfl) (wo.heap.size+1) 9 _ 1 16 Tryz.underlying202 zls (by rfl) (by omega) _ 0 [] (by rfl) (World.ownsRow_nil _ _ _ _) a known.length c (by rfl) (known.map Value.string) (by simp) HNIL.out (zlh (HST.out.below (B1 _))) (zlR known) (by unfold maxLen;omega) (by omega) (by simp) ?_;intro a2 c2' w2 ho2 hg2 hl2;have hW2:Below (wo.heap.size+1) (wo.alloc (.cells #[.bool p.neg,.string p.cls,.slice a_terms p.terms.length c_terms] 38)) w2:=((Below.refl _ _).grown hg2.out (by simp) (fun j hj=>by cases hj));have d2:w2.cell? ⟨wo.heap.size,2,none⟩=some (.slice a_terms p.terms.length c_terms):=(hW2.cell (p:=⟨wo.heap.size,2,none⟩) (by simp)).trans (by simp [go_sem]))
   have ho2':w2.ownsRow (wo.heap.size+1) 9 1 (.slice a2 known.length c2') known.length (known.map Value.string):=by
    have:=ho2.out
    simpa using this
   clear ho2 hg2 hl2 d2 c0 c1 c2 hq
   go_loopw [6,27] (fun hv i wr'=>∃ (j:Nat) (here:List ByteArray) (a':Option Addr) (c':Nat),j≤p.terms.length∧i=.int .i64 j∧hv=.slice a' here.length c'∧zap p.terms known=zap (p.terms.drop j) here∧here.length≤6 * k+j∧wr'.ownsRow (wo.heap.size+1) 9 1 (.slice a' here.length c') here.length (here.map Value.string)∧Below (wo.heap.size+1) (wo.alloc (.cells #[.bool p.neg,.string p.cls,.slice a_terms p.terms.length c_terms] 38)) wr') (fun _ i _=>p.terms.length - (intOf i).toNat)
   case atStart=>exact ⟨0,known,a2,c2',by omega,rfl,by simp,rfl,by omega,ho2',hW2⟩
   case round=>
    clear ho2' hW2
    obtain ⟨j,here,a',c',hj,rfl,rfl,hT,hhl,hown,hbW⟩:=hrel
    have HT:=zaW hT
    have HO:=zaW hown
    clear hT hown
    have hBo:Below wo.heap.size wo wr:=(B1 _).trans (hbW.mono (by omega))
    have hBw:Below w.heap.size w wr:=hb.trans (hBo.mono hb.size)
    have hsz:=hbW.size
    have A1:∀ o,Below (wo.heap.size+1) (wo.alloc (.cells #[.bool p.neg,.string p.cls,.slice a_terms p.terms.length c_terms] 38)) (wr.alloc o):=fun o=>hbW.alloc (by simp at hsz;omega) _
    by_cases hjl:j<p.terms.length
    ·obtain ⟨t,htk⟩:∃ t,p.terms[j]?=some t:=⟨p.terms[j],by simp [hjl]⟩
     obtain ⟨b',o',ea,hq,c0,c1,c2,c3,c4,c5⟩:=(HTM.out.below hBo).get htk
     subst ea
     have HDT:Hid (p.terms.drop j=t :: p.terms.drop (j+1)):=zan htk
     have AW:∀ o,Below w.heap.size w (wr.alloc o):=fun o=>hBw.alloc hBw.size _
     have R1:∀ o,Below wr.heap.size wr (wr.alloc o):=fun o=>(Below.refl _ _).alloc (Nat.le_refl _) _
     by_cases k2:t.kind=2
     ·have HN:Hid (zap p.terms known=zap (p.terms.drop (j+1)) (here ++ [t.var])):=show zap p.terms known=_ from by rw [HT.out,HDT.out,za2];simp [asks,k2]
      rw [k2] at c0
      go_wp2_with (at_builtin;refine zae (by rfl) (.tmp 51) (.tmp 54) 202 (by rfl) (wo.heap.size+1) 9 _ 1 16 Tryz.underlying202 zls (by rfl) (by omega) _ here.length _ (by rfl) ((HO.out.alloc _).alloc _) (some ⟨wr.heap.size+1,0,none⟩) 1 1 (by rfl) [.string t.var] (by rfl) (fun e=>by cases e) (zfl _ _ _ _ (by simp)) (by simp [Value.oneCell']) (by unfold maxLen;omega) (by omega) (by simp at hsz ⊢;omega) ?_;intro a3 c3' w3 ho3 hg3 hl3)
      have hW3:=(((A1 _).alloc (by simp at hsz;simp;omega) _).grown hg3.out (by simp at hsz;simp;omega) (fun g hg=>(HO.out.lt g hg).1))
      have ho3':w3.ownsRow (wo.heap.size+1) 9 1 (.slice a3 (here ++ [t.var]).length c3') (here ++ [t.var]).length ((here ++ [t.var]).map Value.string):=by
       have:=ho3.out
       simpa using this
      go_roundw
      case rel=>exact ⟨j+1,here ++ [t.var],a3,c3',by omega,by go_num,by simp,HN.out,by simp;omega,ho3',hW3⟩
      case measure=>simp [intOf];omega
     ·by_cases k3:t.kind=3∧t.var.toList.isEmpty=false
      ·obtain ⟨k3,v0⟩:=k3
       rw [k3] at c0
       have hI:=zaW (fun w' h=>zgo t.var a' c' here w' (q:=none) h (by omega))
       cases hm:memB t.var here
       all_goals
        rw [hm] at hI
        go_wp2_with (go_at_call 145;refine (hI.out _ ((zcJ.owns HO.out).below (R1 _))).mono ?_;rintro e' w1 ⟨rfl,rfl⟩)
       ·have HX:Hid (scope x=some (k+1)):=show scope x=_ from by
         have hz:zap p.terms known=none:=by
          rw [HT.out,HDT.out,za2]
          simp [asks,k3,isE,hm]
          intro h
          simp [h] at v0
         rw [HH.out,HG.out,HD.out,zbN,hz]
        go_ret
        exact ⟨zaX (by rw [HX.out];simp [zeI]),AW _⟩
       ·have HN:Hid (zap p.terms known=zap (p.terms.drop (j+1)) here):=show zap p.terms known=_ from by rw [HT.out,HDT.out,za2];simp [k3,hm]
        go_roundw
        case rel=>exact ⟨j+1,here,a',c',by omega,by go_num,rfl,HN.out,by omega,HO.out.alloc _,A1 _⟩
        case measure=>simp [intOf];omega
      ·have HN:Hid (zap p.terms known=zap (p.terms.drop (j+1)) here):=show zap p.terms known=_ from by
        have ha:asks t=false:=by
         unfold asks isE
         by_cases h3:t.kind=3
         ·have:t.var.toList.isEmpty=true:=by cases h:t.var.toList.isEmpty <;> simp_all
          simp [this]
         ·simp [h3]
        rw [HT.out,HDT.out,za2,ha]
        simp [k2]
       by_cases h3:t.kind=3
       ·have hve:t.var.toList.isEmpty=true:=by cases h:t.var.toList.isEmpty <;> simp_all
        clear k3
        rw [h3] at c0
        go_wp2
        go_roundw
        case rel=>exact ⟨j+1,here,a',c',by omega,by go_num,rfl,HN.out,by omega,HO.out.alloc _,A1 _⟩
        case measure=>simp [intOf];omega
       ·clear k3
        go_wp2
        go_roundw
        case rel=>exact ⟨j+1,here,a',c',by omega,by go_num,rfl,HN.out,by omega,HO.out.alloc _,A1 _⟩
        case measure=>simp [intOf];omega
    ·have HN:Hid (zap p.terms known=some here):=show zap p.terms known=_ from by
      rw [HT.out,List.drop_eq_nil_of_le (by omega)]
      rfl
     have d0:wr.cell? ⟨wo.heap.size,0,none⟩=some (.bool p.neg):=(hbW.cell (p:=⟨wo.heap.size,0,none⟩) (by simp)).trans (by simp [go_sem])
     have hbx:zcf wr w.heap.size x (some ⟨b,o,none⟩) c_pats a_exprs c_exprs a_acts c_acts:=(HBX.out.below (B1 _)).belowB hbW (by omega)
     cases hn':p.neg
     all_goals
      rw [hn'] at d0
      have HM:Hid (zbd x.pats [] 1=zbd (x.pats.drop (k+1)) (if p.neg then known else here) (k+1+1)):=show zbd x.pats [] 1=_ from by rw [HG.out,HD.out,zbN,HN.out]
      rw [hn'] at HM
      go_wp2
     ·go_roundw
      case rel=>exact ⟨k+1,here,a',c',by omega,by go_num,rfl,HM.out,by omega,zkX HO.out,zcJ.owns HO.out,hbx,hBw⟩
      case measure=>simp [intOf];omega
     ·go_roundw
      case rel=>exact ⟨k+1,known,a,c,by omega,by go_num,rfl,HM.out,by omega,HNIL.out,HST.out.below hBo,hbx,hBw⟩
      case measure=>simp [intOf];omega
  ·have hkn36:known.length≤36:=by omega
   have HN:Hid (scope x=zdy x known):=show scope x=_ from by rw [HH.out,HG.out,List.drop_eq_nil_of_le (by omega)];rfl
   obtain ⟨q0,q1,q2,q3,q4⟩:=hbox
   go_wp2
   clear q0 q1 q2 q3 q4
   go_loopw [65] (fun i wr'=>∃ (k nx:Nat),k≤x.acts.length∧i=.int .i64 k∧zdy x known=zaD (zbW x.exprs known) (x.acts.drop k) (x.pats.length+1+k)∧zb6 SS (x.acts.drop k) nx (k+1)=none∧(x.exprs.take nx).all (zbc known)=true∧zcJ none wr' a known∧zcf wr' w.heap.size x a_pats c_pats a_exprs c_exprs a_acts c_acts∧Below w.heap.size w wr') (fun i _=>x.acts.length - (intOf i).toNat)
   case atStart=>exact ⟨0,0,by omega,rfl,rfl,HAG.out,by simp,HST.out,HBX.out,hb⟩
   case round=>
    clear HG HBX HST hb hk hwl HAG
    obtain ⟨k,nx,hk,rfl,hG,hAG,hall,hst,hbox,hb⟩:=hrel
    have HG:=zaW hG
    have HAG:=zaW hAG
    have HALL:=zaW hall
    have HST:=zaW hst
    have HBX:=zaW hbox
    have hwl:w.heap.size<wr.heap.size:=zgr hbox.1
    clear hG hAG hall hst
    by_cases hkl2:k<x.acts.length
    ·obtain ⟨y,hyk⟩:∃ y,x.acts[k]?=some y:=⟨x.acts[k],by simp [hkl2]⟩
     obtain ⟨b,o,a_args,c_args,rfl,hq,c0,c1,c2,c3,h_args⟩:=(h_acts.below hb).get hyk
     have hyl:=(HSA.out.2 y (List.mem_of_getElem? hyk)).2
     have HD:Hid (x.acts.drop k=y :: x.acts.drop (k+1)):=zan hyk
     have R1:∀ o,Below wr.heap.size wr (wr.alloc o):=fun o=>(Below.refl _ _).alloc (Nat.le_refl _) _
     have AW:∀ o,Below w.heap.size w (wr.alloc o):=fun o=>hb.alloc hb.size _
     obtain ⟨nx',hga,hAG'⟩:∃ n,gAc SS y nx=some n∧zb6 SS (x.acts.drop (k+1)) n (k+1+1)=none:=by
      have h:=HAG.out
      rw [HD.out,zca] at h
      cases hg:gAc SS y nx with
      | none=>rw [hg] at h;cases h
      | some n=>rw [hg] at h;exact ⟨n,rfl,h⟩
     have hag:=zlT hga
     have HAG2:=zaW hAG'
     clear hAG' hga
     by_cases hne:y.args=[]
     ·have hnx:nx'=nx:=by
       rw [hne] at hag
       have:some nx=some nx':=hag
       injection this with this
       exact this.symm
      subst hnx
      have HX:Hid (zdy x known=zaD (zbW x.exprs known) (x.acts.drop (k+1)) (x.pats.length+1+(k+1))):=show zdy x known=_ from by
       rw [HG.out,HD.out,zaA,show zbW x.exprs known y=true by simp [zbW,hne]]
       rfl
      have hl0:y.args.length=0:=by simp [hne]
      rw [hl0] at c3
      clear hne hag hl0 hbox
      go_wp2
      go_roundw
      case rel=>exact ⟨k+1,nx',by omega,by go_num,HX.out,HAG2.out,HALL.out,HST.out.below (R1 _),HBX.out.below (R1 _),AW _⟩
      case measure=>simp [intOf];omega
     ·obtain ⟨xl,hxl,hnx',hxs⟩:=zfB hne hag
      have hle2:=zhF HSP.out hag
      obtain ⟨ln,hln⟩:∃ ln,y.args.length=ln+1:=⟨y.args.length - 1,by have:=List.length_pos_iff.2 hne;omega⟩
      have hlast:y.args[ln]?=some (xl:Int):=by
       rw [List.getLast?_eq_getElem?,hln,Nat.add_sub_cancel] at hxl
       exact hxl
      obtain ⟨x0,s0,hx0,hs0,hs01⟩:∃ (x0:Nat) (s0:Sp),y.args[0]?=some (x0:Int)∧SS[x0]?=some s0∧s0.1=nx:=by
       cases hy:y.args with
       | nil=>exact absurd hy hne
       | cons v r=>
        rw [hy] at hag
        obtain ⟨x0,s0,rfl,h1,h2,_⟩:=zec hag
        exact ⟨x0,s0,by simp,h1,h2⟩
      have HAV:Hid (zbW x.exprs known y=(x.exprs.take (xl+1)).all (zbc known)):=ziK hxl
      obtain ⟨ba,oa,ea,_,g0⟩:=h_args.get hx0
      subst ea
      obtain ⟨ba2,oa2,ea2,_,gl⟩:=h_args.get hlast
      cases ea2
      have hfl:=HFL.out
      rw [hln] at c3
      have z0:(0:Int)<(ln:Int)+1:=by omega
      have z1:¬ (ln:Int)+1=0:=by omega
      have z2:(0:Int)<((ln+1:Nat):Int):=by omega
      have z3:(((ln+1:Nat):Int)==0)=false:=by simp;omega
      have z4:(((ln:Int)+1)==0)=false:=by simp;omega
      have g0':=fun o=>zaa (R1 o) g0
      have q3':=fun o=>zaa (R1 o) hbox.2.2.2.1
      have HEX:=zaW (fun o=>(h_exprs.below (AW o)))
      clear hbox hne hag hxl hq
      simp only [Nat.add_zero] at g0 g0'
      go_wp2
      have HHA:=zaW (h_args)
      have HGL:=zaW gl
      clear z1 z3 z4 gl hx0 hlast g0 c0 c1 c2 c3 h_args
      have hz:=fun n=>zbQ a_exprs c_exprs x.exprs SS x0 s0 ((wr.alloc (.cells #[.int .i64 y.kind,.int .i64 y.k,.string y.cls,.slice (some ⟨ba,oa,none⟩) (ln+1) c_args] 200)).drewN n) ((HEX.out _).below (zaN (Below.refl _ _))) HSP.out hs0
      have HZ:=zaW hz
      clear hz
      go_quiet (first | (go_at_call 146;refine Calls.quiet_of_same (HZ.out _)))
      rw [hs01]
      clear g0' q3' HEX hs01 hs0 HZ z0 z2
      go_wp2
      obtain ⟨wa,rfl⟩:∃ u,u=wr:=⟨wr,rfl⟩
      go_loopw [11] (fun kv wr2=>∃ (j:Nat),nx≤j∧j≤xl+1∧kv=.int .i64 (j:Int)∧(x.exprs.take j).all (zbc known)=true∧wr2.cell? ⟨wa.heap.size,3,none⟩=some (.slice (some ⟨ba,oa,none⟩) (ln+1) c_args)∧Below wa.heap.size wa wr2) (fun kv _=>xl+1 - (intOf kv).toNat)
      case atStart=>exact ⟨nx,Nat.le_refl _,by omega,rfl,HALL.out,by simp [go_sem],zaN (R1 _)⟩
      case round=>
       obtain ⟨j,hj0,hj1,rfl,hall,hbx3,hbW⟩:=hrel
       have HAJ:=zaW hall
       clear hall
       have hBw:Below w.heap.size w wr:=hb.trans (hbW.mono hb.size)
       have hrb:=HBX.out.below hbW
       have hgl:=zaa hbW HGL.out
       have hw1:IntKind.i64.wrap ((ln:Int)+1 - 1)=(ln:Int):=by rw [show (ln:Int)+1 - 1=(ln:Int) by omega,IntKind.wrap_i64];omega
       have hw2:IntKind.i64.wrap (((ln+1:Nat):Int) - 1)=(ln:Int):=by rw [show ((ln+1:Nat):Int) - 1=(ln:Int) by omega,IntKind.wrap_i64];omega
       have hw3:IntKind.i64.wrap (ln:Int)=(ln:Int):=by rw [IntKind.wrap_i64];omega
       have y0:(0:Int)≤(ln:Int):=by omega
       have y1:(ln:Int)<((ln+1:Nat):Int):=by omega
       have y2:(ln:Int)<(ln:Int)+1:=by omega
       by_cases hjl:j≤xl
       ·obtain ⟨e,hek⟩:∃ e,x.exprs[j]?=some e:=⟨x.exprs[j]'(by omega),by simp⟩
        obtain ⟨be,oe,ee,hqe,e0,e1,e2,e3,e4,e5,e6,e7⟩:=(h_exprs.below hBw).get hek
        subst ee
        obtain ⟨r0,r1,r2,r3,r4⟩:=hrb
        have R2:∀ o,Below wr.heap.size wr (wr.alloc o):=fun o=>(Below.refl _ _).alloc (Nat.le_refl _) _
        have v0:(0:Int)≤(j:Int):=by omega
        have v1:(j:Int)<(x.exprs.length:Int):=by omega
        have v2:(j:Int)≤(xl:Int):=by omega
        have hsz:=hbW.size
        have r2':=fun o=>zaa (R2 o) r2
        clear r0 r1 r2 r4
        by_cases ek:e.kind=1
        ·rw [ek] at e0
         have hI:=zaW (fun w' h=>zgo e.var a c known w' (q:=none) h (by omega))
         cases hm:memB e.var known
         all_goals
          rw [hm] at hI
          go_wp2_with (go_at_call 145;refine (hI.out _ ((HST.out.below hbW).below (R2 _))).mono ?_;rintro e' w1 ⟨rfl,rfl⟩)
         ·have HX:Hid (scope x=some (x.pats.length+1+k)):=show scope x=_ from by
           rw [HN.out,HG.out,HD.out,zaA,HAV.out,zfL hek (by omega) (show zbc known e=false by simp [zbc,ek,hm])]
           rfl
          go_ret
          exact ⟨zaX (by rw [HX.out];simp [zeI];omega),hBw.alloc hBw.size _⟩
         ·have HJ:Hid ((x.exprs.take (j+1)).all (zbc known)=true):=show (x.exprs.take (j+1)).all (zbc known)=true from by rw [zhk hek,HAJ.out];simp [zbc,hm]
          go_roundw
          case rel=>exact ⟨j+1,by omega,by omega,by go_num,HJ.out,zaa (R2 _) hbx3,hbW.alloc hsz _⟩
          case measure=>simp [intOf];omega
        ·have HJ:Hid ((x.exprs.take (j+1)).all (zbc known)=true):=show (x.exprs.take (j+1)).all (zbc known)=true from by rw [zhk hek,HAJ.out];simp [zbc,ek]
         go_wp2
         go_roundw
         case rel=>exact ⟨j+1,by omega,by omega,by go_num,HJ.out,zaa (R2 _) hbx3,hbW.alloc hsz _⟩
         case measure=>simp [intOf];omega
       ·have hjx:j=xl+1:=by omega
        have v2:¬ (j:Int)≤(xl:Int):=by omega
        have HX:Hid (zdy x known=zaD (zbW x.exprs known) (x.acts.drop (k+1)) (x.pats.length+1+(k+1))):=show zdy x known=_ from by
         rw [HG.out,HD.out,zaA,HAV.out,← hjx,HAJ.out]
         rfl
        clear hrb
        go_wp2
        go_roundw
        case rel=>exact ⟨k+1,nx',by omega,by go_num,HX.out,HAG2.out,by rw [hnx',← hjx];exact HAJ.out,HST.out.below hbW,HBX.out.below hbW,hBw⟩
        case measure=>simp [intOf];omega
    ·go_wp2
     go_ret
     exact ⟨zaX (by rw [HN.out,HG.out,List.drop_eq_nil_of_le (by omega)];rfl),hb⟩
end Go.Proofs.YtmmdlgjmplddiaaGreat
namespace Go.Proofs.YtmmdlgjmplddiaaGreat
open Go.RowKit
attribute [local go_sem ↓] Go.wp_at_zero Go.wp_at_succ
theorem zbo (pre:List Ru) (r:Ru) (s:List Ru) (k:Nat):zcD pre (r :: s) k=if (chk1 pre r).1=0 then zcD (pre ++ [r]) s (k+1) else ((chk1 pre r).1,(k:Int),(chk1 pre r).2):=rfl
def ckV (p:Int × Int × Int):Value:=.agg #[.int .i64 p.1,.int .i64 p.2.1,.int .i64 p.2.2]
set_option maxHeartbeats 1600000 in
theorem ze8 (a:Option Addr) (c:Nat) (rs:List Ru) {q:Option Nat} (w:World) (hv:zcy q w a rs) (hc:rs.length≤c) (hle:zbs Ru.le 1048576 rs) (ho:∀ x∈rs,zd0 x.exprs) :
  Calls Tryz.prog 30 #[.slice a rs.length c] w fun e w'=>e=.returned (ckV (chk rs))∧Below w.heap.size w w':=by
 obtain ⟨hl,hle⟩:=hle
 have B0:∀ o,Below w.heap.size w (w.alloc o):=fun o=>(Below.refl _ _).alloc (Nat.le_refl _) _
 by_cases h16:16<rs.length
 ·have h16':(16:Int)<(rs.length:Int):=by omega
  have HC:Hid (chk rs=(1,0,0)):=show chk rs=_ from by unfold chk;rw [if_neg (by omega)]
  go_enter Tryz.func30,Tryz.ntmps30
  go_wp2
  refine bodyPost_ret (v:=.agg #[.int .i64 1,.int .i64 0,.int .i64 0]) (by simp [results,Tryz.results30,go_sem]) rfl ⟨by rw [HC.out];rfl,B0 _⟩
 ·have h16':¬ (16:Int)<(rs.length:Int):=by omega
  have HC:Hid (chk rs=zcD [] rs 0):=show chk rs=_ from by unfold chk;rw [if_pos (by omega)]
  go_enter Tryz.func30,Tryz.ntmps30
  go_wp2
  go_loopw [13] (fun i wr=>∃ (k:Nat),k≤rs.length∧i=.int .i64 k∧chk rs=zcD (rs.take k) (rs.drop k) k∧w.heap.size<wr.heap.size∧(∀ j,j<3→wr.cell? ⟨w.heap.size,j,none⟩=some (.int .i64 0))∧(∀ j,wr.frozen? ⟨w.heap.size,j,none⟩=false)∧Below w.heap.size w wr) (fun i _=>rs.length - (intOf i).toNat)
  case atStart=>exact ⟨0,by omega,rfl,by rw [HC.out];rfl,by simp,fun j hj=>by (match j,hj with | 0,_=>simp [go_sem] | 1,_=>simp [go_sem] | 2,_=>simp [go_sem]),fun j=>by simp [go_sem],B0 _⟩
  case round=>
   obtain ⟨k,hk,rfl,hG,hws,hy,hyf,hb⟩:=hrel
   have HG:=zaW hG
   clear hG
   have y0:=hy 0 (by omega)
   have y1:=hy 1 (by omega)
   have y2:=hy 2 (by omega)
   have f0:=hyf 0
   have f1:=hyf 1
   have f2:=hyf 2
   have HY:=zaW (And.intro hy hyf)
   clear hy hyf
   by_cases hkl:k<rs.length
   ·obtain ⟨x,hxk⟩:∃ x,rs[k]?=some x:=⟨rs[k],by simp [hkl]⟩
    have hv':=hv.below hb
    obtain ⟨b,o,a_pats,c_pats,a_exprs,c_exprs,a_acts,c_acts,rfl,hq,c0,c1,c2,c3,c4,h_pats,h_exprs,h_acts,hcap⟩:=hv'.get hxk
    have hxl:=hle x (List.mem_of_getElem? hxk)
    have hxo:=ho x (List.mem_of_getElem? hxk)
    have HD:Hid (rs.drop k=x :: rs.drop (k+1)):=zan hxk
    have HT:Hid (rs.take (k+1)=rs.take k ++ [x]):=zbV rs k x hxk
    have hlen:(rs.take k).length=k:=by simp;omega
    have hBw:∀ o,Below wr.heap.size wr (wr.alloc o):=fun o=>(Below.refl _ _).alloc (Nat.le_refl _) _
    have hBa:∀ o,Below w.heap.size w (wr.alloc o):=fun o=>hb.alloc hb.size _
    have hCK:=zaW (fun w' (h0:Below wr.heap.size wr w')=>zka x a_pats c_pats a_exprs c_exprs a_acts c_acts (some ⟨b,o,none⟩) c (rs.take k) (q:=q) w' (zaJ.take (hv'.below h0) k) (h_pats.below h0) (h_exprs.below h0) (h_acts.below h0) hxl hxo hcap (by omega))
    rw [hlen] at hCK
    have z0:(0:Int)≤(k:Int):=by omega
    have z1:(k:Int)≤(c:Int):=by omega
    obtain ⟨⟨p1,p2⟩,hp⟩:∃ p,chk1 (rs.take k) x=p:=⟨_,rfl⟩
    rw [hp] at hCK
    by_cases hp0:p1=0
    ·have HX:Hid (chk rs=zcD (rs.take (k+1)) (rs.drop (k+1)) (k+1)):=show chk rs=_ from by rw [HG.out,HD.out,zbo,hp,if_pos hp0,HT.out]
     subst hp0
     go_wp2
     first
     | (go_region_held3 (fun w'=>w'.cell? ⟨wr.heap.size,0,none⟩=some (.string x.name)∧w'.cell? ⟨wr.heap.size,1,none⟩=some (.int .i64 x.sal)∧w'.cell? ⟨wr.heap.size,2,none⟩=some (.slice a_pats x.pats.length c_pats)∧w'.cell? ⟨wr.heap.size,3,none⟩=some (.slice a_exprs x.exprs.length c_exprs)∧w'.cell? ⟨wr.heap.size,4,none⟩=some (.slice a_acts x.acts.length c_acts)) ((go_split_ands;refine ⟨?_,?_,?_,?_,?_⟩ <;> first | (simp [go_sem];done) | exact zaa hb' (by assumption))) (first | (go_at_call 66;refine (hCK.out _ ((hBw _).drew)).mono ?_;rintro e w' ⟨rfl,hb'⟩) | fail))
     | fail
     have hW:Below wr.heap.size wr w':=(hBw _).drew.trans (hb'.mono (by have:=(hBw (.map #[] 0)).size;simp))
     go_wp2
     go_roundw
     case rel=>exact ⟨k+1,by omega,by go_num,HX.out,Nat.lt_of_lt_of_le hws hW.size,fun j hj=>zaa hW (HY.out.1 j hj),fun j=>by rw [(bcell hW).2 _ _ hws];exact HY.out.2 j,hb.trans (hW.mono hb.size)⟩
     case measure=>simp [intOf];omega
    ·have HX:Hid (chk rs=(p1,(k:Int),p2)):=show chk rs=_ from by rw [HG.out,HD.out,zbo,hp,if_neg hp0]
     have hp1:(p1 != 0)=true:=by simpa using hp0
     go_wp2
     first
     | (go_region_held3 (fun w'=>w'.cell? ⟨wr.heap.size,0,none⟩=some (.string x.name)∧w'.cell? ⟨wr.heap.size,1,none⟩=some (.int .i64 x.sal)∧w'.cell? ⟨wr.heap.size,2,none⟩=some (.slice a_pats x.pats.length c_pats)∧w'.cell? ⟨wr.heap.size,3,none⟩=some (.slice a_exprs x.exprs.length c_exprs)∧w'.cell? ⟨wr.heap.size,4,none⟩=some (.slice a_acts x.acts.length c_acts)) ((go_split_ands;refine ⟨?_,?_,?_,?_,?_⟩ <;> first | (simp [go_sem];done) | exact zaa hb' (by assumption))) (first | (go_at_call 66;refine (hCK.out _ ((hBw _).drew)).mono ?_;rintro e w' ⟨rfl,hb'⟩) | fail))
     | fail
     have hW:Below wr.heap.size wr w':=(hBw _).drew.trans (hb'.mono (by have:=(hBw (.map #[] 0)).size;simp))
     have y0':=zaa hW y0
     have y1':=zaa hW y1
     have y2':=zaa hW y2
     have f0':w'.frozen? ⟨w.heap.size,0,none⟩=false:=by rw [(bcell hW).2 _ _ hws];exact f0
     have f1':w'.frozen? ⟨w.heap.size,1,none⟩=false:=by rw [(bcell hW).2 _ _ hws];exact f1
     have f2':w'.frozen? ⟨w.heap.size,2,none⟩=false:=by rw [(bcell hW).2 _ _ hws];exact f2
     go_wp2
     have hbW:=hb.trans (hW.mono hb.size)
     refine bodyPost_ret (v:=.agg #[.int .i64 p1,.int .i64 (k:Int),.int .i64 p2]) (by simp [results,Tryz.results30,go_sem,y0',y1',y2']) rfl ⟨by rw [HX.out];rfl,?_⟩
     exact ((hbW.setCell (Nat.le_refl _) _).setCell (Nat.le_refl _) _).setCell (Nat.le_refl _) _
   ·have HX:Hid (chk rs=(0,0,0)):=show chk rs=_ from by rw [HG.out,List.drop_eq_nil_of_le (by omega)];rfl
    go_wp2
    refine bodyPost_ret (v:=.agg #[.int .i64 0,.int .i64 0,.int .i64 0]) (by simp [results,Tryz.results30,go_sem,y0,y1,y2]) rfl ⟨by rw [HX.out];rfl,?_⟩
    exact ((hb.setCell (Nat.le_refl _) _).setCell (Nat.le_refl _) _).setCell (Nat.le_refl _) _
end Go.Proofs.YtmmdlgjmplddiaaGreat
