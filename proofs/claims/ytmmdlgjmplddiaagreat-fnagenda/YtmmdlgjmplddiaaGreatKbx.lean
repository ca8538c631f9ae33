/-
  OUR OWN TEXT. Pq7, Pq8, Mm5, Mm6, Pq9, Pq10, Pq11, Mm7, Pq12, Nd5, Nd6, Pl4, Tk1, one behind the other.
-/
import Derived.Test.YtmmdlgjmplddiaaGreatKbv
import Derived.Test.YtmmdlgjmplddiaaGreatKas
import Derived.Test.YtmmdlgjmplddiaaGreatKbq
import Derived.Test.YtmmdlgjmplddiaaGreatKbu
import Derived.Test.YtmmdlgjmplddiaaGreatSpec3m
import Derived.Test.YtmmdlgjmplddiaaGreatKbl
import Derived.Test.YtmmdlgjmplddiaaGreatKbh
import Derived.Test.YtmmdlgjmplddiaaGreatKbs
import Derived.Test.YtmmdlgjmplddiaaGreatKbk
import Derived.Test.YtmmdlgjmplddiaaGreatKaz
import Derived.Test.YtmmdlgjmplddiaaGreatKaj
import Derived.Maps.OwnSet
import Derived.Maps.RangeWalk
import Derived.DeepKeys4
import Derived.Deep.RegionHeld3
import Derived.Deep.DrawnRows
namespace Go.Proofs.YtmmdlgjmplddiaaGreat
theorem ziB (s:ByteArray) (l:List ByteArray) (x:ByteArray):memB s (l ++ [x])=(memB s l || decide (x=s)):=by simp [memB]
theorem znu {t:Tm}:asks t=true ↔ t.kind=3∧t.var≠⟨#[]⟩:=by
 unfold asks isE
 constructor
 ·intro h
  simp only [Bool.and_eq_true,beq_iff_eq,Bool.not_eq_true'] at h
  exact ⟨h.1,fun e=>by rw [zdk.2 e] at h;cases h.2⟩
 ·rintro ⟨h1,h2⟩
  simp only [Bool.and_eq_true,beq_iff_eq,Bool.not_eq_true']
  refine ⟨h1,?_⟩
  cases he:t.var.toList.isEmpty
  ·rfl
  ·exact absurd (zdk.1 he) h2
def KnI (vs:List Vr) (ts:List Tm) (i:Nat) (here:List ByteArray):Prop:=∀ name,memB name here=true ↔ (zaT vs name≠none∨earlier ts i name≠none)
theorem zfd {vs:List Vr}{ts:List Tm}:∀ (d i:Nat) (here h:List ByteArray),i+d=ts.length→KnI vs ts i here→zap (ts.drop i) here=some h →
  (∀ j t,i≤j→ts[j]?=some t→t.kind=3→t.var≠⟨#[]⟩→zaT vs t.var≠none∨earlier ts j t.var≠none)∧KnI vs ts ts.length h
 | 0,i,here,h,hi,hk,hg=>by
  have:i=ts.length:=by omega
  subst this
  rw [List.drop_eq_nil_of_le (Nat.le_refl _)] at hg
  simp only [zap] at hg
  injection hg with hg
  subst hg
  exact ⟨fun j t hj ht=>by have:=(List.getElem?_eq_some_iff.1 ht).1;omega,hk⟩
 | d+1,i,here,h,hi,hk,hg=>by
  obtain ⟨t,ht⟩:∃ t,ts[i]?=some t:=⟨ts[i],by simp⟩
  rw [zak ht] at hg
  simp only [zap] at hg
  split at hg
  ·cases hg
  ·rename_i hno
   have hk':KnI vs ts (i+1) (if t.kind==2 then here ++ [t.var] else here):=by
    intro name
    rw [zbv ht]
    by_cases h2:t.kind=2
    ·rw [if_pos (by simpa using h2),ziB,Bool.or_eq_true,hk name]
     cases he:earlier ts i name with
     | some j=>simp
     | none=>
      by_cases hv:t.var=name
      ·rw [if_pos (zbm.2 ⟨h2,hv⟩)]
       simp [hv]
      ·rw [if_neg (fun e=>hv (zbm.1 e).2)]
       simp [hv]
    ·rw [if_neg (by simpa using h2),hk name,if_neg (fun e=>h2 (zbm.1 e).1)]
     cases earlier ts i name <;> simp
   obtain ⟨r1,r2⟩:=zfd d (i+1) _ h (by omega) hk' hg
   refine ⟨fun j u hj hu h3 hv=>?_,r2⟩
   by_cases hji:j=i
   ·subst hji
    rw [ht] at hu
    injection hu with hu
    subst hu
    have ha:=znu.2 ⟨h3,hv⟩
    rw [ha] at hno
    simp at hno
    exact (hk t.var).1 hno
   ·exact r1 j u (by omega) hu h3 hv
theorem zef:∀ (ps:List Pt) (vs:List Vr) (n:Nat) (known out:List ByteArray) (k:Nat),(∀ p∈ps,gPt p=true)→(∀ name,memB name known=true ↔ zaT vs name≠none)→za9 ps known k=.inr out→KnR ps vs n
 | [],_,_,_,_,_,_,_,_=>trivial
 | p :: ps,vs,n,known,out,k,hg,hk,h=>by
  simp only [za9] at h
  cases ht:zap p.terms known with
  | none=>rw [ht] at h;cases h
  | some here=>
   rw [ht] at h
   simp only at h
   obtain ⟨r1,r2⟩:=zfd (vs:=vs) (ts:=p.terms) p.terms.length 0 known here (by omega) (fun name=>by rw [hk name];simp [earlier,za6]) (by simpa using ht)
   refine ⟨hg p List.mem_cons_self,fun i t hi h3 hv=>r1 i t (Nat.zero_le _) hi h3 hv,?_⟩
   split
   ·rename_i hneg
    rw [if_pos hneg] at h
    exact zef ps vs n known out (k+1) (fun q hq=>hg q (List.mem_cons_of_mem _ hq)) hk h
   ·rename_i hneg
    rw [if_neg hneg] at h
    refine zef ps _ (n+1) here out (k+1) (fun q hq=>hg q (List.mem_cons_of_mem _ hq)) (fun name=>?_) h
    rw [r2 name,Ne,Ne,Ne,zcx name _ (Nat.le_refl _)]
    by_cases h1:zaT vs name=none <;> simp [h1]
theorem zfk:∀ (rs pre:List Ru) (k:Nat),(zcV pre rs k).1=0→∀ r∈rs,scope r=none
 | [],_,_,_,r,hr=>by simp at hr
 | x :: s,pre,k,h,r,hr=>by
  simp only [zcV] at h
  split at h
  ·rename_i h0
   rcases List.mem_cons.1 hr with rfl | hr
   ·unfold chk1 at h0
    split at h0
    ·simp at h0
    ·split at h0
     ·simp at h0
     ·split at h0
      ·split at h0
       ·simp at h0
       ·assumption
      ·simp at h0
   ·exact zfk s _ _ h r hr
  ·rename_i h0
   exact absurd h h0
theorem zim {rs:List Ru} (h:(chk rs).1=0) {r:Ru} (hr:r∈rs):KnR r.pats [] 0:=by
 obtain ⟨h1,_⟩:=(zeV h).2 r hr
 have hs:scope r=none:=by
  unfold chk at h
  split at h
  ·exact zfk rs [] 0 h r hr
  ·simp at h
 unfold scope at hs
 cases hp:za9 r.pats [] 1 with
 | inl i=>rw [hp] at hs;cases hs
 | inr known=>exact zef r.pats [] 0 [] known 1 (zgo h1).2 (fun name=>by simp [memB,zaT]) hp
end Go.Proofs.YtmmdlgjmplddiaaGreat
namespace Go.Proofs.YtmmdlgjmplddiaaGreat
theorem zhy {s:ByteArray}{v:Vr}:∀ {vs:List Vr},zaT vs s=some v→v∈vs
 | [],h=>by simp [zaT] at h
 | x :: r,h=>by
  rw [zcX] at h
  by_cases hx:x.name=s
  ·rw [if_pos hx] at h
   injection h with h
   subst h
   exact List.mem_cons_self
  ·rw [if_neg hx] at h
   exact List.mem_cons_of_mem _ (zhy h)
end Go.Proofs.YtmmdlgjmplddiaaGreat
namespace Go.Proofs.YtmmdlgjmplddiaaGreat
open Go.RowKit
attribute [local go_sem ↓] Go.wp_at_zero Go.wp_at_succ
theorem zgl (fs:List F):∀ (ps:List Pt) (xs:List Pm) (n t b:Nat),(∀ x∈xs,x.tags.length≤t∧x.binds.length≤b)→(∀ p∈ps,p.terms.length≤6)→∀ y∈(allM ps fs xs n).1,y.tags.length≤t+ps.length∧y.binds.length≤b+6 * ps.length
 | [],xs,n,t,b,h,_,y,hy=>by
  simp only [allM] at hy
  simpa using h y hy
 | p :: ps,xs,n,t,b,h,h6,y,hy=>by
  simp only [allM] at hy
  have hp:=h6 p List.mem_cons_self
  have:=zgl fs ps (zbc p fs xs) _ (t+1) (b+6) (fun x hx=>by have:=zfg h x hx;omega) (fun q hq=>h6 q (List.mem_cons_of_mem _ hq)) y hy
  rw [List.length_cons]
  omega
def ready (rs:List Ru) (fs:List F):Bool:=decide ((chk rs).1=0) && zaS fs
theorem zbD {rs:List Ru}{fs:List F} (h:ready rs fs=true):(chk rs).1=0∧zaS fs=true∧fs.length≤40:=by
 unfold ready at h
 simp at h
 refine ⟨h.1,h.2,?_⟩
 have h2:=h.2
 unfold zaS at h2
 simp at h2
 exact h2.1
theorem zbR.one {w:World}{k:Nat}{x:Ru}{a_p a_e a_a:Option Addr}{c_p c_e c_a:Nat} (h:w.heap[k]?=some (.cells #[.string x.name,.int .i64 x.sal,.slice a_p x.pats.length c_p,.slice a_e x.exprs.length c_e,.slice a_a x.acts.length c_a] 35 (0,0))) (h_p:zcf none w a_p x.pats) (h_e:zbw none w a_e x.exprs) (h_a:zcO none w a_a x.acts) (hc:x.exprs.length≤c_e):zbR none w (some ⟨k,0,none⟩) [x]:=by
 intro i y hi
 rcases i with _ | i
 ·simp at hi
  subst hi
  refine ⟨k,0,_,rfl,Qb.bare _ _ _,rfl,?_,a_p,c_p,a_e,c_e,a_a,c_a,rfl,h_p,h_e,h_a,hc⟩
  intro j v hj
  rcases j with _ | _ | _ | _ | _ | j
  all_goals simp at hj
  all_goals subst hj
  all_goals simp [World.cell?,h]
 ·simp at hi
end Go.Proofs.YtmmdlgjmplddiaaGreat
namespace Go.Proofs.YtmmdlgjmplddiaaGreat
open Go.RowKit
attribute [local go_sem ↓] Go.wp_at_zero Go.wp_at_succ
def zgC (r:Ru) (fs:List F) (tags:List Int):Bool:=ready [r] fs && (allM r.pats fs [⟨[],[]⟩] 0).1.any (fun x=>decide (x.tags=tags))
theorem cells5M {w:World}{b:Nat}{ty:TypeId}{x0 x1 x2 x3 x4:Value} (h:w.heap[b]?=some (.cells #[x0,x1,x2,x3,x4] ty (0,0))):w.cell? ⟨b,0,none⟩=some x0∧w.cell? ⟨b,1,none⟩=some x1∧w.cell? ⟨b,2,none⟩=some x2∧w.cell? ⟨b,3,none⟩=some x3∧w.cell? ⟨b,4,none⟩=some x4:=by
 refine ⟨?_,?_,?_,?_,?_⟩ <;> simp [World.cell?,h]
end Go.Proofs.YtmmdlgjmplddiaaGreat
namespace Go.Proofs.YtmmdlgjmplddiaaGreat
theorem znk {ps:List Pt}{fs:List F}{tags:List Int} (hk:KnR ps [] 0):((allM ps fs [⟨[],[]⟩] 0).1.any (fun x=>decide (x.tags=tags))=true) ↔ ∃ U∈exts (zaF ps [] 0) fs [],U.map (·.tag)=tags:=by
 have h:=zhq fs ps [] [] 0 hk rfl (fun x hx=>by simp at hx)
 have h':(allM ps fs [⟨[],[]⟩] 0).1.map (·.tags)=(exts (zaF ps [] 0) fs []).map (fun U=>U.map (·.tag)):=h
 rw [List.any_eq_true]
 constructor
 ·rintro ⟨x,hx,hd⟩
  have hm:x.tags∈(allM ps fs [⟨[],[]⟩] 0).1.map (·.tags):=List.mem_map.2 ⟨x,hx,rfl⟩
  rw [h'] at hm
  obtain ⟨U,hU,he⟩:=List.mem_map.1 hm
  exact ⟨U,hU,he.trans (of_decide_eq_true hd)⟩
 ·rintro ⟨U,hU,he⟩
  have hm:U.map (·.tag)∈(exts (zaF ps [] 0) fs []).map (fun U=>U.map (·.tag)):=List.mem_map.2 ⟨U,hU,rfl⟩
  rw [← h'] at hm
  obtain ⟨x,hx,hx2⟩:=List.mem_map.1 hm
  exact ⟨x,hx,decide_eq_true (hx2.trans he)⟩
theorem zfD {fs:List F} (hd:∀ f∈fs,∀ g∈fs,f.tag=g.tag→f=g):∀ (U W:List F),(∀ f∈U,f∈fs)→(∀ f∈W,f∈fs)→U.map (·.tag)=W.map (·.tag)→U=W
 | [],[],_,_,_=>rfl
 | [],_ :: _,_,_,h=>by simp at h
 | _ :: _,[],_,_,h=>by simp at h
 | a :: U,b :: W,hU,hW,h=>by
  simp only [List.map_cons,List.cons.injEq] at h
  rw [hd a (hU a List.mem_cons_self) b (hW b List.mem_cons_self) h.1,zfD hd U W (fun f hf=>hU f (List.mem_cons_of_mem _ hf)) (fun f hf=>hW f (List.mem_cons_of_mem _ hf)) h.2]
end Go.Proofs.YtmmdlgjmplddiaaGreat
namespace Go.Proofs.YtmmdlgjmplddiaaGreat
theorem znS {vs:List Vr}{ts:List Tm}:∀ k,∀ t∈zaz vs ts k,t.slot<k∧∃ v∈vs,t.fact=v.fact∧t.at_=v.slot
 | 0,t,ht=>by simp [zaz] at ht
 | k+1,t,ht=>by
  simp only [zaz,List.mem_append] at ht
  rcases ht with ht | ht
  ·obtain ⟨h1,h2⟩:=znS k t ht
   exact ⟨by omega,h2⟩
  ·cases hk:ts[k]? with
   | none=>rw [hk] at ht;simp at ht
   | some u=>
    rw [hk] at ht
    simp only [jtOf] at ht
    cases hl:zaT vs u.var with
    | none=>rw [hl] at ht;simp at ht
    | some v=>
     rw [hl] at ht
     simp only at ht
     have hv:v∈vs:=zhy hl
     cases he:earlier ts k u.var with
     | some j=>rw [he] at ht;simp at ht
     | none=>
      rw [he] at ht
      simp at ht
      subst ht
      exact ⟨by simp,v,hv,rfl,rfl⟩
theorem zeD {p:Pt}{f:F} (hg:gPt p=true) (h:passes (zaE p) f=true):f.slots.length=p.terms.length:=by
 rw [show zaE p=⟨p.cls,(p.terms.length:Int),zah p.terms p.terms.length⟩ from if_pos hg] at h
 unfold passes at h
 simp only [Bool.and_eq_true,decide_eq_true_eq] at h
 omega
def VIn (U:List F) (vs:List Vr):Prop:=∀ v∈vs,∃ g,U[v.fact]?=some g∧v.slot<g.slots.length
theorem zjn {U:List F}{vs:List Vr}{ts:List Tm}{n:Nat}{g:F} (h:VIn U vs) (hg:U[n]?=some g) (hl:g.slots.length=ts.length):∀ i,i≤ts.length→VIn U (zar vs ts n i)
 | 0,_=>h
 | i+1,hi=>by
  intro v hv
  obtain ⟨t,ht⟩:∃ t,ts[i]?=some t:=⟨ts[i],by simp⟩
  rw [zcu ht] at hv
  split at hv
  ·rcases List.mem_append.1 hv with hv | hv
   ·exact zjn h hg hl i (by omega) v hv
   ·simp at hv
    subst hv
    exact ⟨g,hg,by simp only;omega⟩
  ·exact zjn h hg hl i (by omega) v hv
theorem zlT {U:List F}{vs:List Vr}{p:Pt}{f:F} (h:VIn U vs) (hg:gPt p=true) (hp:passes (zaE p) f=true):∀ t∈zaz vs p.terms p.terms.length,t.fits U f:=by
 intro t ht
 obtain ⟨h1,v,hv,e1,e2⟩:=znS _ t ht
 obtain ⟨g,hg1,hg2⟩:=h v hv
 exact ⟨by rw [zeD hg hp];exact h1,g,by rw [e1];exact hg1,by rw [e2];exact hg2⟩
end Go.Proofs.YtmmdlgjmplddiaaGreat
namespace Go.Proofs.YtmmdlgjmplddiaaGreat
theorem zog {last:Int}{f:F} (h:okF last f=true):last<f.tag:=by
 unfold okF at h
 simp only [Bool.and_eq_true,decide_eq_true_eq] at h
 omega
theorem ze4:∀ {fs:List F}{last:Int},zbs last fs=true→∀ f∈fs,last<f.tag
 | [],_,_,f,hf=>by simp at hf
 | g :: r,last,h,f,hf=>by
  simp only [zbs,Bool.and_eq_true] at h
  have h1:=zog h.1
  rcases List.mem_cons.1 hf with rfl | hf
  ·exact h1
  ·have:=ze4 h.2 f hf
   omega
theorem zin:∀ {fs:List F}{last:Int},zbs last fs=true→∀ f∈fs,∀ g∈fs,f.tag=g.tag→f=g
 | [],_,_,f,hf,_,_,_=>by simp at hf
 | x :: r,last,h,f,hf,g,hg,he=>by
  simp only [zbs,Bool.and_eq_true] at h
  rcases List.mem_cons.1 hf with e1 | hf'
  ·rcases List.mem_cons.1 hg with e2 | hg'
   ·rw [e1,e2]
   ·have:=ze4 h.2 g hg'
    rw [e1] at he
    omega
  ·rcases List.mem_cons.1 hg with e2 | hg'
   ·have:=ze4 h.2 f hf'
    rw [e2] at he
    omega
   ·exact zin h.2 f hf' g hg' he
def CnCp (fs:List F) (c:Cn) (d:Cp):Prop:=c.neg=d.neg∧c.at_=d.at_∧c.tests=d.tests∧c.alpha=d.alpha∧c.facts=fs.filter (passes d.alpha)
theorem zdL {α:Type}{p q:α→Bool}:∀ l:List α,(l.filter p).any q=l.any (fun x=>p x && q x)
 | []=>rfl
 | x :: r=>by
  by_cases h:p x=true
  ·rw [List.filter_cons_of_pos h,List.any_cons,List.any_cons,zdL r,h];rfl
  ·rw [List.filter_cons_of_neg h,List.any_cons,zdL r,show p x=false by simpa using h];rfl
end Go.Proofs.YtmmdlgjmplddiaaGreat
namespace Go.Proofs.YtmmdlgjmplddiaaGreat
open Go.RowKit
attribute [local go_sem ↓] Go.wp_at_zero Go.wp_at_succ
def znH (bs:List Bd) (w:World) (e:Ending) (w':World):Prop:=(∃ a c,e=.returned (.slice a bs.length c)∧w'.ownsRow w.heap.size 220 4 (.slice a bs.length c) bs.length (bs.flatMap za7))∧Below w.heap.size w w'
theorem znH.nil {bs:List Bd}{w w':World} (h1:bs=[]) (h3:Below w.heap.size w w'):znH bs w (.returned (.slice none 0 0)) w':=by
 subst h1
 exact ⟨⟨none,0,rfl,World.ownsRow_nil _ _ _ _⟩,h3⟩
end Go.Proofs.YtmmdlgjmplddiaaGreat
namespace Go.Proofs.YtmmdlgjmplddiaaGreat
theorem zi2 (fs:List F):∀ (ps:List Pt) (T:List F) (vs:List Vr) (m:Nat),KnR ps vs T.length→zaT vs ⟨#[]⟩=none→(∀ x∈vs,x.fact<T.length) →
  (allM ps fs [⟨T.map (·.tag),envB T vs⟩] m).1=(exts (zaF ps vs T.length) fs T).map (fun U=>(⟨U.map (·.tag),envB U (za0 ps vs T.length)⟩:Pm))
 | [],T,vs,m,_,_,_=>rfl
 | p :: ps,T,vs,m,hk,hE,hT=>by
  obtain ⟨hg,hK,hrest⟩:=hk
  have hh:=ziC hg hE hK hT ⟨p.neg,T.length,zaE p,zaz vs p.terms p.terms.length⟩ rfl rfl fs
  rw [zbT]
  simp only [allM,zaF,exts]
  have hn:zbc p fs [⟨T.map (·.tag),envB T vs⟩]=zcn p fs ⟨T.map (·.tag),envB T vs⟩:=by simp [zbc]
  rw [hn]
  unfold zcn
  by_cases hneg:p.neg=true
  ·rw [if_pos hneg,if_pos hneg,if_pos hneg,if_pos hneg]
   rw [if_pos hneg] at hrest
   rw [hh]
   by_cases ha:fs.any (lets ⟨p.neg,T.length,zaE p,zaz vs p.terms p.terms.length⟩ T)=true
   ·rw [if_pos ha,if_neg (by
     obtain ⟨f,hf,hf2⟩:=List.any_eq_true.1 ha
     have:=List.length_pos_of_mem (List.mem_filter.2 ⟨hf,hf2⟩)
     rw [List.length_map]
     omega),zeU]
    rfl
   ·rw [if_neg ha,if_pos (by
     rw [List.length_map,List.length_eq_zero_iff,List.filter_eq_nil_iff]
     intro f hf h2
     exact ha (List.any_eq_true.2 ⟨f,hf,h2⟩))]
    exact zi2 fs ps T vs _ hrest hE hT
  ·rw [if_neg hneg,if_neg hneg,if_neg hneg,if_neg hneg]
   rw [if_neg hneg] at hrest
   rw [hh,zfi,List.flatMap_map,List.map_flatMap]
   congr 1
   funext f
   have hE2:zaT (zar vs p.terms T.length p.terms.length) ⟨#[]⟩=none:=(zcx _ _ (Nat.le_refl _)).2 ⟨hE,zdb (zh4 hg) _ (Nat.le_refl _)⟩
   have:=zi2 fs ps (T ++ [f]) (zar vs p.terms T.length p.terms.length) 0 (by simpa using hrest) hE2 (fun x hx=>by simpa using zcY hT p.terms.length x hx)
   simpa using this
theorem znW {fs:List F}{ps:List Pt} (hk:KnR ps [] 0):(allM ps fs [⟨[],[]⟩] 0).1=(exts (zaF ps [] 0) fs []).map (fun U=>(⟨U.map (·.tag),envB U (za0 ps [] 0)⟩:Pm)):=zi2 fs ps [] [] 0 hk rfl (fun x hx=>by simp at hx)
end Go.Proofs.YtmmdlgjmplddiaaGreat
namespace Go.Proofs.YtmmdlgjmplddiaaGreat
open Go.RowKit Go.Maps
attribute [local go_sem ↓] Go.wp_at_zero Go.wp_at_succ
def zo6 (kl:Al→Lit) (base gb mb:Nat) (la:Option Addr) (lc:Nat) (L:List AlX) (bs:List Nat) (r:Ru) (w:World) (e:Ending) (w':World):Prop:=
 ∃ la' lc' L' bs' D' ca cc va vc X,e=.returned (.agg #[.slice ca X.length cc,.slice va (za0 r.pats [] 0).length vc])∧X.map Cx.cp=zaF r.pats [] 0∧NS kl w' base gb mb la' lc' L' bs' D'∧PD w' w.heap.size ca cc va vc X (za0 r.pats [] 0) (L'.map Prod.fst) bs'∧Fr3 gb mb (Value.slice la L.length lc).ownBlock w w'∧(∀ g,(Value.slice la' L'.length lc').ownBlock=some g→(Value.slice la L.length lc).ownBlock=some g∨w.heap.size≤g)∧(∀ (i n:Nat),bs[i]?=some n→bs'[i]?=some n)∧(∀ (i:Nat) (y:Al),(L.map Prod.fst)[i]?=some y→(L'.map Prod.fst)[i]?=some y)∧L'.length≤L.length+r.pats.length∧(∀ x∈L',x.1.tests.length≤6)
set_option maxRecDepth 100000 in
set_option maxHeartbeats 12800000 in
theorem ziI (kl:Al→Lit) (K:KLA kl) (r:Ru) (a_p:Option Addr) (c_p:Nat) (a_e:Option Addr) (c_e:Nat) (a_c:Option Addr) (c_c:Nat) {q:Option Nat} (base gb mb:Nat) (la:Option Addr) (lc:Nat) (L:List AlX) (bs:List Nat) (D:DataW Unit) (wA w:World) (hA:Below wA.heap.size wA w) (hAB:wA.heap.size≤base) (hbase:base≤w.heap.size) (h_p:zcf q wA a_p r.pats) (hN:NS kl w base gb mb la lc L bs D) (hp6:r.pats.length≤6) (ht6:∀ p∈r.pats,p.terms.length≤6) (hle:∀ p∈r.pats,Pt.le 1048576 p) (hvo:∀ p∈r.pats,∀ t∈p.terms,VOk t.val) (hL:L.length≤900) (h6:∀ x∈L,x.1.tests.length≤6) :
  Calls Tryz.prog 52 #[.agg #[.string r.name,.int .i64 r.sal,.slice a_p r.pats.length c_p,.slice a_e r.exprs.length c_e,.slice a_c r.acts.length c_c],.pointer (some ⟨gb,0,none⟩)] w (zo6 kl base gb mb la lc L bs r w):=by
 have HBL:=hidP (show ∀ wr,Fr3 gb mb (Value.slice la L.length lc).ownBlock w wr→Below wA.heap.size wA wr from fun wr hf=>hA.trans (hf.below (by omega) (Nat.le_trans hAB hN.gbase.1) (Nat.le_trans hAB hN.gbase.2) (fun k hk=>Nat.le_trans hAB (hN.row.lt k hk).1)))
 have HP:=hidP h_p
 have HN:=hidP hN
 have HT6:=hidP ht6
 have HLE:=hidP hle
 have HVO:=hidP hvo
 have H6:=hidP h6
 clear h_p hN ht6 hle hvo hA h6
 go_enter Tryz.func52,Tryz.ntmps52
 go_upto_region 2 with fail
 refine lift3P ?_
 intro w0 hW0 hq0 hq1 hq2
 have f2:w0.cell? ⟨w.heap.size,2,none⟩=some (.slice a_p r.pats.length c_p):=by simp [World.cell?,hq0]
 obtain ⟨rb,hrb⟩:∃ b,b=w.heap.size+1:=⟨_,rfl⟩
 obtain ⟨pb,hpb⟩:∃ b,b=rb+1:=⟨_,rfl⟩
 rw [← hrb] at hq1 ⊢
 rw [show w.heap.size+2=pb by omega] at hq2
 rw [← hpb]
 have RB0:=hidP (show PlB w0 rb (.slice none 0 0) (.slice none 0 0) from hq1)
 have PS0:=hidP (show PS kl w (Value.slice la L.length lc).ownBlock bs (L.map Prod.fst) base gb mb pb la lc L bs D none 0 none 0 [] [] w0 from ⟨HN.out.bel hW0,⟨hq2,World.ownsRow_nil _ _ _ _,World.ownsRow_nil _ _ _ _,fun c hc=>by simp at hc,fun c hc=>by simp at hc⟩,Fr3.of_below hW0,fun g hg=>.inl hg,fun _ _ h=>h,fun _ _ h=>h,H6.out⟩)
 have hpbw:w.heap.size≤pb:=by omega
 have hrp:rb<pb:=by omega
 have hrw0:w.heap.size≤rb:=by omega
 clear hW0 hq0 hq1 hq2 hrb hpb
 go_wp2_with fail
 clear f2
 go_loopw [13,6] (fun iv cv wr=>∃ (k n:Nat) (la':Option Addr) (lc':Nat) (L':List AlX) (bs':List Nat) (D':DataW Unit) (ca:Option Addr) (cc:Nat) (va:Option Addr) (vc:Nat) (X:List Cx) (U:List Vr),iv=.int .i64 (k:Int)∧cv=.int .i64 (n:Int)∧k≤r.pats.length∧zaF r.pats [] 0=X.map Cx.cp ++ zaF (r.pats.drop k) U n∧za0 r.pats [] 0=za0 (r.pats.drop k) U n∧L'.length≤L.length+k∧X.length≤k∧U.length≤6 * k∧n≤k∧PS kl w (Value.slice la L.length lc).ownBlock bs (L.map Prod.fst) base gb mb pb la' lc' L' bs' D' ca cc va vc X U wr∧PlB wr rb (.slice none 0 0) (.slice none 0 0)) (fun iv _ _=>r.pats.length - (intOf iv).toNat)
 case atStart=>exact ⟨0,0,la,lc,L,bs,D,none,0,none,0,[],[],rfl,rfl,Nat.zero_le _,rfl,rfl,Nat.le_refl _,Nat.le_refl _,Nat.le_refl _,Nat.le_refl _,PS0.out,RB0.out⟩
 case round=>
  obtain ⟨L0,hL0⟩:∃ v,v=L:=⟨L,rfl⟩
  obtain ⟨bs0,hbs0⟩:∃ v,v=bs:=⟨bs,rfl⟩
  obtain ⟨R0,hR0⟩:∃ v,v=(Value.slice la L.length lc).ownBlock:=⟨_,rfl⟩
  rw [← hR0] at hrel HBL
  rw [← hbs0] at hrel
  rw [← hL0] at hrel
  have hL0b:L0.length≤900:=by rw [hL0];exact hL
  have hLL:L0.length≤L.length:=by rw [hL0];exact Nat.le_refl _
  have HR0:=hidP hR0
  have HL0:=hidP hL0
  have HB0:=hidP hbs0
  obtain ⟨k,n,la,lc,L,bs,D,ca,cc,va,vc,X,U,rfl,rfl,hkl,hG,hVG,hLl,hXk,hUk,hnk',hPS,hRB⟩:=hrel
  have HG:=hidP hG
  have HVR:=hidP hVG
  have PSR:=hidP hPS
  have RBR:=hidP hRB
  have hsr:=hPS.fr.rest.size
  have hpr:pb<wr.heap.size:=zab hPS.pn.box
  clear hG hVG hPS hRB PS0 RB0
  clear hR0 hL0 hbs0
  by_cases hk:k<r.pats.length
  ·obtain ⟨p,hp⟩:∃ p,r.pats[k]?=some p:=⟨r.pats[k],by simp [hk]⟩
   obtain ⟨mb',mo,a_t,c_t,rfl,_,y0,y1,y2,h_t,hct⟩:=HP.out.getC hp
   have AR:=HBL.out _ PSR.out.fr
   have x0:=zaa AR y0
   have x1:=zaa AR y1
   have x2:=zaa AR y2
   have HTM:=hidP h_t
   have hpm:=List.mem_of_getElem? hp
   have HDR:=hidP (zak hp)
   have hpt:=HT6.out p hpm
   have HPL:=hidP (HLE.out p hpm)
   have HPV:=hidP (HVO.out p hpm)
   have v0:(0:Int)≤(k:Int):=by omega
   have v1:(k:Int)<(r.pats.length:Int):=by omega
   have HOF:=hidP (fun w' (h:PS kl w R0 bs0 (L0.map Prod.fst) base gb mb pb la lc L bs D ca cc va vc X U w')=>zpp kl K p a_t c_t base gb mb la lc L bs D w' h.ns (HTM.out.below (HBL.out _ h.fr)) (Nat.le_trans HPL.out.1 (by decide)) ⟨Nat.le_trans HPL.out.2.1 (by decide),fun t ht=>⟨Nat.le_trans (HPL.out.2.2 t ht).1 (by decide),Nat.le_trans (HPL.out.2.2 t ht).2 (by decide)⟩⟩ HPL.out.2.1 hct HPV.out (by omega) (Nat.le_trans hbase h.fr.rest.size))
   have HJT:=hidP (fun w' la lc L bs D (h:PS kl w R0 bs0 (L0.map Prod.fst) base gb mb pb la lc L bs D ca cc va vc X U w')=>zhp pb p a_t c_t va vc U w' h.pn.box.facts.1.2 (zfG.owns h.pn.vars) (HTM.out.below (HBL.out _ h.fr)) hct (by omega) (by omega))
   clear y0 y1 y2 h_t hp AR hpm HPL HPV
   go_upto_region 6 with fail
   refine zaj ?_
   intro w5 hW5 hq5
   obtain ⟨tb,htb⟩:∃ b,b=wr.heap.size:=⟨_,rfl⟩
   rw [← htb] at hq5 ⊢
   obtain ⟨d0,d1,d2⟩:=cells3P hq5
   have PSd:=hidP ((PSR.out.bel hW5).bel (Below.refl _ _).drew)
   have BXd:=hidP (show w5.drew.heap[tb]?=some (.cells #[.bool p.neg,.string p.cls,.slice a_t p.terms.length c_t] 38 (0,0)) from hq5)
   have RBd:=hidP (show PlB w5.drew rb (.slice none 0 0) (.slice none 0 0) from (show PlB w5 rb (.slice none 0 0) (.slice none 0 0) from RBR.out.bel hW5))
   have hs5:=hW5.size
   have hptb:pb<tb:=by omega
   have HCO:=hidP (fun g (hg:(Value.slice ca X.length cc).ownBlock=some g)=>(PSd.out.pn.conds.lt g hg).2)
   replace HCO:=hidP (show ∀ g,(Value.slice ca X.length cc).ownBlock=some g→g<w5.heap.size from HCO.out)
   clear hW5 hq5 htb x0 x1 x2 PSR RBR
   go_wp2_with fail
   refine wp_region_noPanic ?_
   refine wp_region_held_drew (S:=(fun w'=>w'.cell? ⟨tb,0,none⟩=some (.bool p.neg)∧w'.cell? ⟨tb,1,none⟩=some (.string p.cls)∧w'.cell? ⟨tb,2,none⟩=some (.slice a_t p.terms.length c_t))) (by kernel_rfl) ?_ (fun hHeld=>?_)
   ·(try dsimp only)
    exact ⟨d0,d1,d2⟩
   refine tk 0 hHeld ?_
   (try simp only [pA,pZ,pS])
   refine tk 1 hHeld ?_
   (try simp only [pA,pZ,pS])
   refine tk 2 hHeld ?_
   (try simp only [pA,pZ,pS])
   refine tk 3 hHeld ?_
   (try simp only [pA,pZ,pS])
   refine tk 4 hHeld ?_
   (try simp only [pA,pZ,pS])
   refine tk 6 hHeld ?_
   (try simp only [pA,pZ,pS])
   refine wpAnyH_ready (rs:=[5,9]) (by kernel_rfl) (by simp) ?_
   refine AllReadyH.cons (o:=?o1) ?ho1 (fun K hK=>?step1) (AllReadyH.cons (o:=?o2) ?ho2 (fun K hK=>?step2) AllReadyH.nil)
   case ho1=>(simp only [List.getElem?_toArray,List.getElem?_cons_succ,List.getElem?_cons_zero];rfl)
   case ho2=>(simp only [List.getElem?_toArray,List.getElem?_cons_succ,List.getElem?_cons_zero];rfl)
   case step1=>
    go_simp
    (go_at_call 32;refine (HOF.out _ PSd.out).mono ?_;rintro e' w6 ⟨la3,lc3,L3,bs3,D3,nk,rfl,hns,hL3,hnk,hfo,hex,hrw⟩)
    (try go_wp2_with fail)
    refine hK.out _ _ ?hS3 (fun hHeld=>?_)
    case hS3=>((try dsimp only);exact cells3P (hfo.box BXd.out PSd.out.ns (by decide) (by decide)))
    clear hK K
    (first | simp only [pA,pZ,pS] | simp only [pN] | skip)
    have PSo:=hidP (PSd.out.of hns (zc7 p) hL3 hfo hex hrw)
    have BXo:=hidP (hfo.box BXd.out PSd.out.ns (by decide) (by decide))
    have RBo:=hidP (show PlB w6 rb (.slice none 0 0) (.slice none 0 0) from hfo.box RBd.out PSd.out.ns (by decide) (by decide))
    have HND:=hidP (show ∃ i:Nat,(L3.map Prod.fst)[i]?=some (zaE p)∧bs3[i]?=some nk from ⟨_,by rw [hL3];exact zlo _ _,hnk⟩)
    have hL3b:L3.length≤L.length+1:=by
     have h1:=congrArg List.length hL3
     have h2:=zjH (L.map Prod.fst) (zaE p)
     simp at h1 h2
     omega
    have hso:w5.heap.size≤w6.heap.size:=hfo.rest.size
    clear hns hL3 hnk hfo hex hrw
    obtain ⟨x0,x1,x2⟩:=cells3P BXo.out
    refine wpAnyH_ready (rs:=[7,9]) (by kernel_rfl) (by simp) ?_
    refine AllReadyH.cons (o:=?o4) ?ho4 (fun K hK=>?step4) (AllReadyH.cons (o:=?o5) ?ho5 (fun K hK=>?step5) AllReadyH.nil)
    case ho4=>(simp only [List.getElem?_toArray,List.getElem?_cons_succ,List.getElem?_cons_zero];rfl)
    case ho5=>(simp only [List.getElem?_toArray,List.getElem?_cons_succ,List.getElem?_cons_zero];rfl)
    case step4=>
     go_simp
     (go_at_call 92;refine (HJT.out _ _ _ _ _ _ PSo.out).mono ?_;rintro e'' w7 ⟨⟨ta,tc,rfl,hto⟩,hbj⟩)
     (try go_wp2_with fail)
     refine hK.out _ _ ?hS6 (fun hHeld=>?_)
     case hS6=>((try dsimp only);exact ⟨zaa hbj x0,zaa hbj x1,zaa hbj x2⟩)
     clear hK K
     (first | simp only [pA,pZ,pS] | simp only [pN] | skip)
     have PSm:=hidP (PSo.out.bel hbj)
     have BXm:=hidP ((hbj.block _ (zab BXo.out)).trans BXo.out)
     have RBm:=hidP (RBo.out.bel hbj)
     have TOm:=hidP (zan hto (show w.heap.size≤w6.heap.size by omega))
     have hsj:=hbj.size
     clear hto hbj x0 x1 x2 PSo BXo RBo
     refine tk 8 hHeld ?_
     (try simp only [pA,pZ,pS])
     have HWm:=hidP (fun o'=>(Below.refl _ _).alloc (Nat.le_refl _) o':∀ o',Below w7.heap.size w7 (w7.alloc o'))
     obtain ⟨m0,m1,m2⟩:=cells3P BXm.out
     refine wpAnyH_ready (rs:=[9]) (by kernel_rfl) (by simp) ?_
     refine AllReadyH.cons (List.getElem?_toArray.trans rfl) (fun K hK=>?_) AllReadyH.nil
     go_simp
     refine hK.out _ _ ?hS8 (fun hHeld=>?_)
     case hS8=>((try dsimp only);exact ⟨zaa (HWm.out _) m0,zaa (HWm.out _) m1,zaa (HWm.out _) m2⟩)
     clear hK K
     (first | simp only [pA,pZ,pS] | simp only [pN] | skip)
     refine wpAnyH_ready (rs:=[10]) (by kernel_rfl) (by simp) ?_
     refine AllReadyH.cons (List.getElem?_toArray.trans rfl) (fun K hK=>?_) AllReadyH.nil
     go_simp
     refine hK.out _ _ ?hS10 (fun hHeld=>?_)
     case hS10=>((try dsimp only);exact ⟨zaa (HWm.out _) m0,zaa (HWm.out _) m1,zaa (HWm.out _) m2⟩)
     clear hK K
     (first | simp only [pA,pZ,pS] | simp only [pN] | skip)
     refine wpAnyH_done (by kernel_rfl) ?_ _
     refine NoPanic.normal ?_
     go_upto_region 7 with fail
     refine zaj ?_
     intro w8 hW8 hq8
     obtain ⟨c0,c1,c2,c3⟩:=cells4P hq8
     have PS8:=hidP (PSm.out.bel hW8)
     have BX8:=hidP ((hW8.block _ (zab BXm.out)).trans BXm.out)
     have RB8:=hidP (RBm.out.bel hW8)
     have TO8:=hidP (zag TOm.out hW8)
     have hs8:=hW8.size
     clear hW8 hq8 m0 m1 m2 HWm
     have htb8:tb<w8.heap.size:=zab BX8.out
     clear d0 d1 d2 HOF HJT hHeld
     obtain ⟨⟨q0,q1⟩,_,hpl⟩:=PS8.out.pn.box.facts
     have HW:=hidP (fun o=>(Below.refl _ _).alloc (Nat.le_refl _) o:∀ o,Below w8.heap.size w8 (w8.alloc o))
     have q0':∀ o,(w8.alloc o).cell? ⟨pb,0,none⟩=some (.slice ca X.length cc):=fun o=>zaa (HW.out o) q0
     have TY:=hidP (fun o g hg=>zai (zag PS8.out.pn.conds (HW.out o)) (k:=g) hg)
     have PBA:=hidP (fun o=>PS8.out.pn.box.bel (HW.out o))
     have RBA:=hidP (fun o=>RB8.out.bel (HW.out o))
     have BXA:=hidP (fun o=>((HW.out o).block _ (zab BX8.out)).trans BX8.out)
     have hBw8:w.heap.size≤w8.heap.size:=by omega
     go_upto_region 8 with (first | (at_builtin;refine zad (by rfl) (.tmp 27) (.tmp 29) 68 (by rfl) w.heap.size 140 _ 4 48 Tryz.underlying68 zlp (by rfl) (by omega) _ X.length _ (by rfl) (zag PS8.out.pn.conds (HW.out _)) (some ⟨_,0,none⟩) 1 1 (by rfl) (zb3 ⟨⟨p.neg,n,zaE p,zaz U p.terms p.terms.length⟩,nk,ta,tc⟩) (by rfl) (fun e=>by cases e) (zav _ _ _ _ (by first | rfl | simp)) (zlA _) (by unfold maxLen;omega) (by omega) (Nat.le_trans hBw8 (HW.out _).size) ?_;intro a9 c9 w9 ho9 hg9 hl9;have P9:=hidP (show PlB w9 pb (.slice ca X.length cc) (.slice va U.length vc) from zaI (PBA.out _) hg9.out (TY.out _) (by decide));have R9:=hidP (show PlB w9 rb (.slice none 0 0) (.slice none 0 0) from zaI (RBA.out _) hg9.out (TY.out _) (by decide));have B9:=hidP (zaI (BXA.out _) hg9.out (TY.out _) (by decide));obtain ⟨⟨l0,l1⟩,z,_⟩:=P9.out.facts;have z0':=z 0;clear z) | fail)
     refine zg9 P9.out ?_
     intro w10 hP10 ht10
     obtain ⟨cx,hcx⟩:∃ c:Cx,c=⟨⟨p.neg,n,zaE p,zaz U p.terms p.terms.length⟩,nk,ta,tc⟩:=⟨_,rfl⟩
     have PS10:=hidP (PS8.out.push (c:=⟨⟨p.neg,n,zaE p,zaz U p.terms p.terms.length⟩,nk,ta,tc⟩) TO8.out HND.out hpbw ho9.out hg9.out hP10 ht10)
     rw [← hcx] at PS10
     have HCX:=hidP hcx
     clear hcx
     have RB10:=hidP (show PlB w10 rb (.slice none 0 0) (.slice none 0 0) from (ht10.block rb (by omega)).trans R9.out)
     have BX10:=hidP ((ht10.block tb (by omega)).trans B9.out)
     obtain ⟨e0,e1,e2⟩:=cells3P BX10.out
     clear hP10 ht10 c0 c1 c2 c3 q0 q1 q0' l0 l1 z0' HW TY PBA RBA BXA P9 R9 B9 PS8 BX8 RB8 TO8 ho9 hg9 hl9
     rcases (show p.neg=false∨p.neg=true by cases p.neg <;> simp) with hneg | hneg
     ·have HPG:=hidP (show zaF r.pats [] 0=(X ++ [cx]).map Cx.cp ++ zaF (r.pats.drop (k+1)) (zar U p.terms n p.terms.length) (n+1) by rw [HG.out,HDR.out,zbQ,if_neg (by rw [hneg];simp),HCX.out];simp)
      have HVG:=hidP (show za0 r.pats [] 0=za0 (r.pats.drop (k+1)) (zar U p.terms n p.terms.length) (n+1) by rw [HVR.out,HDR.out,zbT,if_neg (by rw [hneg];simp)])
      have HBI:=hidP (zdq pb n p a_t c_t va vc U (.slice a9 (X ++ [cx]).length c9) w.heap.size wA w10 (HBL.out _ PS10.out.fr) HTM.out PS10.out.pn.box PS10.out.pn.vars (by omega) (by omega) PS10.out.fr.rest.size (by omega) (by omega))
      rw [hneg] at HBI e0
      clear hneg HG HVR HDR
      go_wp2_with fail
      refine HBI.out.mono ?_
      rintro e w11 ⟨rfl,⟨va',vc',hP11,hO11,_⟩,hF11,hA11⟩
      have PS11:=hidP (PS10.out.bindP hpbw hP11 hO11 hF11)
      have RB11:=hidP (show PlB w11 rb (.slice none 0 0) (.slice none 0 0) from (hF11.block rb (zab RB10.out) (by omega) (fun e=>by obtain ⟨c',hc'⟩:=zai PS10.out.pn.vars e;exact zaA hc' RB10.out (by decide))).trans RB10.out)
      have hU11:=zcj U p.terms n p.terms.length
      clear hP11 hO11 hF11 hA11 HBI PS10 RB10 BX10 e0 e1 e2
      go_wp2_with fail
      have PSX:=PS11.out
      rw [HR0.out,HB0.out,HL0.out] at PSX
      have PSX':=hidP PSX
      clear PSX
      go_roundw
      case rel=>exact ⟨k+1,n+1,la3,lc3,L3,bs3,D3,a9,c9,va',vc',_,_,by go_num,by go_num,by omega,HPG.out,HVG.out,by omega,by simp;omega,by omega,by omega,PSX'.out,RB11.out⟩
      case measure=>(simp [intOf];omega)
     ·have HPG:=hidP (show zaF r.pats [] 0=(X ++ [cx]).map Cx.cp ++ zaF (r.pats.drop (k+1)) U n by rw [HG.out,HDR.out,zbQ,if_pos hneg,HCX.out];simp)
      have HVG:=hidP (show za0 r.pats [] 0=za0 (r.pats.drop (k+1)) U n by rw [HVR.out,HDR.out,zbT,if_pos hneg])
      rw [hneg] at e0
      clear hneg HG HVR HDR
      go_wp2_with fail
      have PSX:=PS10.out
      rw [HR0.out,HB0.out,HL0.out] at PSX
      have PSX':=hidP PSX
      clear PSX
      go_roundw
      case rel=>exact ⟨k+1,n,la3,lc3,L3,bs3,D3,a9,c9,va,vc,_,U,by go_num,rfl,by omega,HPG.out,HVG.out,by omega,by simp;omega,by omega,by omega,PSX'.out,RB10.out⟩
      case measure=>(simp [intOf];omega)
    case step5=>
     have HWo:=hidP (fun o'=>(Below.refl _ _).alloc (Nat.le_refl _) o':∀ o',Below w6.heap.size w6 (w6.alloc o'))
     go_simp
     refine hK.out _ _ ?hS11 (fun hHeld=>?_)
     case hS11=>((try dsimp only);exact ⟨zaa (HWo.out _) x0,zaa (HWo.out _) x1,zaa (HWo.out _) x2⟩)
     clear hK K
     (first | simp only [pA,pZ,pS] | simp only [pN] | skip)
     refine wpAnyH_ready (rs:=[7]) (by kernel_rfl) (by simp) ?_
     refine AllReadyH.cons (List.getElem?_toArray.trans rfl) (fun K hK=>?_) AllReadyH.nil
     go_simp
     (go_at_call 92;refine (HJT.out _ _ _ _ _ _ (PSo.out.bel (HWo.out _))).mono ?_;rintro e'' w7 ⟨⟨ta,tc,rfl,hto⟩,hbj⟩)
     (try go_wp2_with fail)
     refine hK.out _ _ ?hS13 (fun hHeld=>?_)
     case hS13=>((try dsimp only);exact ⟨zaa hbj (zaa (HWo.out _) x0),zaa hbj (zaa (HWo.out _) x1),zaa hbj (zaa (HWo.out _) x2)⟩)
     clear hK K
     (first | simp only [pA,pZ,pS] | simp only [pN] | skip)
     have hbj':=(HWo.out _).trans (hbj.mono (HWo.out _).size)
     have PSm:=hidP (PSo.out.bel hbj')
     have BXm:=hidP ((hbj'.block _ (zab BXo.out)).trans BXo.out)
     have RBm:=hidP (RBo.out.bel hbj')
     have hsj:=hbj.size
     simp at hsj
     have TOm:=hidP (zan hto (show w.heap.size≤_ by simp;omega))
     have ZBm:=hidP (show w7.heap[w6.heap.size]?=some (.cells #[.bool false,.int .i64 0,.pointer none,.slice none 0 0] 140 (0,0)) from (hbj.block w6.heap.size (by simp)).trans (heap_alloc_new _ _))
     clear hto hbj hbj' x0 x1 x2 PSo BXo RBo HWo
     refine tk 8 hHeld ?_
     (try simp only [pA,pZ,pS])
     obtain ⟨m0,m1,m2⟩:=cells3P BXm.out
     obtain ⟨o0,o1,o2,o3⟩:=cells4P ZBm.out
     have s0:w7.frozen? ⟨w6.heap.size,0,none⟩=false:=by simp [World.frozen?,ZBm.out]
     have s1:w7.frozen? ⟨w6.heap.size,1,none⟩=false:=by simp [World.frozen?,ZBm.out]
     have s2:w7.frozen? ⟨w6.heap.size,2,none⟩=false:=by simp [World.frozen?,ZBm.out]
     have s3:w7.frozen? ⟨w6.heap.size,3,none⟩=false:=by simp [World.frozen?,ZBm.out]
     have HLF:=hidP (fun wt (ht:Turned w7 wt w6.heap.size)=>cells3P (zcy BXm.out ZBm.out ht (by decide)))
     refine wpAnyH_ready (rs:=[10]) (by kernel_rfl) (by simp) ?_
     refine AllReadyH.cons (List.getElem?_toArray.trans rfl) (fun K hK=>?_) AllReadyH.nil
     go_simp
     refine hK.out _ _ ?hS15 (fun hHeld=>?_)
     case hS15=>((try dsimp only);exact HLF.out _ (Turned.setCells [_,_,_,_] 0 w7 _))
     clear hK K
     (first | simp only [pA,pZ,pS] | simp only [pN] | skip)
     refine wpAnyH_done (by kernel_rfl) ?_ _
     refine NoPanic.normal ?_
     go_upto_region 7 with fail
     refine zjp ZBm.out ?_
     intro w8 hq8 hT8
     obtain ⟨c0,c1,c2,c3⟩:=cells4P hq8
     have PS8:=hidP (PSm.out.fill ZBm.out hT8 (fun g hg=>by have:=HCO.out g hg;omega) (by omega))
     have BX8:=hidP (zcy BXm.out ZBm.out hT8 (by decide))
     have RB8:=hidP (show PlB w8 rb (.slice none 0 0) (.slice none 0 0) from zcy RBm.out ZBm.out hT8 (by decide))
     have TO8:=hidP (zbE TOm.out ZBm.out hT8 (by decide))
     have hs8:w7.heap.size≤w8.heap.size:=Nat.le_of_eq hT8.size.symm
     clear hT8 hq8 m0 m1 m2 o0 o1 o2 o3 s0 s1 s2 s3 HLF ZBm
     have htb8:tb<w8.heap.size:=zab BX8.out
     clear d0 d1 d2 HOF HJT hHeld
     obtain ⟨⟨q0,q1⟩,_,hpl⟩:=PS8.out.pn.box.facts
     have HW:=hidP (fun o=>(Below.refl _ _).alloc (Nat.le_refl _) o:∀ o,Below w8.heap.size w8 (w8.alloc o))
     have q0':∀ o,(w8.alloc o).cell? ⟨pb,0,none⟩=some (.slice ca X.length cc):=fun o=>zaa (HW.out o) q0
     have TY:=hidP (fun o g hg=>zai (zag PS8.out.pn.conds (HW.out o)) (k:=g) hg)
     have PBA:=hidP (fun o=>PS8.out.pn.box.bel (HW.out o))
     have RBA:=hidP (fun o=>RB8.out.bel (HW.out o))
     have BXA:=hidP (fun o=>((HW.out o).block _ (zab BX8.out)).trans BX8.out)
     have hBw8:w.heap.size≤w8.heap.size:=by omega
     go_upto_region 8 with (first | (at_builtin;refine zad (by rfl) (.tmp 27) (.tmp 29) 68 (by rfl) w.heap.size 140 _ 4 48 Tryz.underlying68 zlp (by rfl) (by omega) _ X.length _ (by rfl) (zag PS8.out.pn.conds (HW.out _)) (some ⟨_,0,none⟩) 1 1 (by rfl) (zb3 ⟨⟨p.neg,n,zaE p,zaz U p.terms p.terms.length⟩,nk,ta,tc⟩) (by rfl) (fun e=>by cases e) (zav _ _ _ _ (by first | rfl | simp)) (zlA _) (by unfold maxLen;omega) (by omega) (Nat.le_trans hBw8 (HW.out _).size) ?_;intro a9 c9 w9 ho9 hg9 hl9;have P9:=hidP (show PlB w9 pb (.slice ca X.length cc) (.slice va U.length vc) from zaI (PBA.out _) hg9.out (TY.out _) (by decide));have R9:=hidP (show PlB w9 rb (.slice none 0 0) (.slice none 0 0) from zaI (RBA.out _) hg9.out (TY.out _) (by decide));have B9:=hidP (zaI (BXA.out _) hg9.out (TY.out _) (by decide));obtain ⟨⟨l0,l1⟩,z,_⟩:=P9.out.facts;have z0':=z 0;clear z) | fail)
     refine zg9 P9.out ?_
     intro w10 hP10 ht10
     obtain ⟨cx,hcx⟩:∃ c:Cx,c=⟨⟨p.neg,n,zaE p,zaz U p.terms p.terms.length⟩,nk,ta,tc⟩:=⟨_,rfl⟩
     have PS10:=hidP (PS8.out.push (c:=⟨⟨p.neg,n,zaE p,zaz U p.terms p.terms.length⟩,nk,ta,tc⟩) TO8.out HND.out hpbw ho9.out hg9.out hP10 ht10)
     rw [← hcx] at PS10
     have HCX:=hidP hcx
     clear hcx
     have RB10:=hidP (show PlB w10 rb (.slice none 0 0) (.slice none 0 0) from (ht10.block rb (by omega)).trans R9.out)
     have BX10:=hidP ((ht10.block tb (by omega)).trans B9.out)
     obtain ⟨e0,e1,e2⟩:=cells3P BX10.out
     clear hP10 ht10 c0 c1 c2 c3 q0 q1 q0' l0 l1 z0' HW TY PBA RBA BXA P9 R9 B9 PS8 BX8 RB8 TO8 ho9 hg9 hl9
     rcases (show p.neg=false∨p.neg=true by cases p.neg <;> simp) with hneg | hneg
     ·have HPG:=hidP (show zaF r.pats [] 0=(X ++ [cx]).map Cx.cp ++ zaF (r.pats.drop (k+1)) (zar U p.terms n p.terms.length) (n+1) by rw [HG.out,HDR.out,zbQ,if_neg (by rw [hneg];simp),HCX.out];simp)
      have HVG:=hidP (show za0 r.pats [] 0=za0 (r.pats.drop (k+1)) (zar U p.terms n p.terms.length) (n+1) by rw [HVR.out,HDR.out,zbT,if_neg (by rw [hneg];simp)])
      have HBI:=hidP (zdq pb n p a_t c_t va vc U (.slice a9 (X ++ [cx]).length c9) w.heap.size wA w10 (HBL.out _ PS10.out.fr) HTM.out PS10.out.pn.box PS10.out.pn.vars (by omega) (by omega) PS10.out.fr.rest.size (by omega) (by omega))
      rw [hneg] at HBI e0
      clear hneg HG HVR HDR
      go_wp2_with fail
      refine HBI.out.mono ?_
      rintro e w11 ⟨rfl,⟨va',vc',hP11,hO11,_⟩,hF11,hA11⟩
      have PS11:=hidP (PS10.out.bindP hpbw hP11 hO11 hF11)
      have RB11:=hidP (show PlB w11 rb (.slice none 0 0) (.slice none 0 0) from (hF11.block rb (zab RB10.out) (by omega) (fun e=>by obtain ⟨c',hc'⟩:=zai PS10.out.pn.vars e;exact zaA hc' RB10.out (by decide))).trans RB10.out)
      have hU11:=zcj U p.terms n p.terms.length
      clear hP11 hO11 hF11 hA11 HBI PS10 RB10 BX10 e0 e1 e2
      go_wp2_with fail
      have PSX:=PS11.out
      rw [HR0.out,HB0.out,HL0.out] at PSX
      have PSX':=hidP PSX
      clear PSX
      go_roundw
      case rel=>exact ⟨k+1,n+1,la3,lc3,L3,bs3,D3,a9,c9,va',vc',_,_,by go_num,by go_num,by omega,HPG.out,HVG.out,by omega,by simp;omega,by omega,by omega,PSX'.out,RB11.out⟩
      case measure=>(simp [intOf];omega)
     ·have HPG:=hidP (show zaF r.pats [] 0=(X ++ [cx]).map Cx.cp ++ zaF (r.pats.drop (k+1)) U n by rw [HG.out,HDR.out,zbQ,if_pos hneg,HCX.out];simp)
      have HVG:=hidP (show za0 r.pats [] 0=za0 (r.pats.drop (k+1)) U n by rw [HVR.out,HDR.out,zbT,if_pos hneg])
      rw [hneg] at e0
      clear hneg HG HVR HDR
      go_wp2_with fail
      have PSX:=PS10.out
      rw [HR0.out,HB0.out,HL0.out] at PSX
      have PSX':=hidP PSX
      clear PSX
      go_roundw
      case rel=>exact ⟨k+1,n,la3,lc3,L3,bs3,D3,a9,c9,va,vc,_,U,by go_num,rfl,by omega,HPG.out,HVG.out,by omega,by simp;omega,by omega,by omega,PSX'.out,RB10.out⟩
      case measure=>(simp [intOf];omega)
   case step2=>
    have HWd:=hidP (fun o'=>(Below.refl _ _).alloc (Nat.le_refl _) o':∀ o',Below w5.drew.heap.size w5.drew (w5.drew.alloc o'))
    have HWe:=hidP (fun o'=>(Below.refl _ _).drew.alloc (by simp) o':∀ o',Below w5.heap.size w5 (w5.drew.alloc o'))
    go_simp
    refine hK.out _ _ ?hS16 (fun hHeld=>?_)
    case hS16=>((try dsimp only);exact ⟨zaa (HWe.out _) d0,zaa (HWe.out _) d1,zaa (HWe.out _) d2⟩)
    clear hK K
    (first | simp only [pA,pZ,pS] | simp only [pN] | skip)
    have PSa:=hidP (fun o'=>PSd.out.bel (HWd.out o'))
    have BXa:=hidP (fun o'=>((HWd.out o').block _ (zab BXd.out)).trans BXd.out)
    have RBa:=hidP (fun o'=>RBd.out.bel (HWd.out o'))
    refine wpAnyH_ready (rs:=[5]) (by kernel_rfl) (by simp) ?_
    refine AllReadyH.cons (List.getElem?_toArray.trans rfl) (fun K hK=>?_) AllReadyH.nil
    go_simp
    (go_at_call 32;refine (HOF.out _ (PSa.out _)).mono ?_;rintro e' w6 ⟨la3,lc3,L3,bs3,D3,nk,rfl,hns,hL3,hnk,hfo,hex,hrw⟩)
    (try go_wp2_with fail)
    refine hK.out _ _ ?hS18 (fun hHeld=>?_)
    case hS18=>((try dsimp only);exact cells3P (hfo.box (BXa.out _) (PSa.out _).ns (by decide) (by decide)))
    clear hK K
    (first | simp only [pA,pZ,pS] | simp only [pN] | skip)
    have PSo:=hidP ((PSa.out _).of hns (zc7 p) hL3 hfo hex hrw)
    have BXo:=hidP (hfo.box (BXa.out _) (PSa.out _).ns (by decide) (by decide))
    have RBo:=hidP (show PlB w6 rb (.slice none 0 0) (.slice none 0 0) from hfo.box (RBa.out _) (PSa.out _).ns (by decide) (by decide))
    have ZBo:=hidP (show w6.heap[w5.heap.size]?=some (.cells #[.bool false,.int .i64 0,.pointer none,.slice none 0 0] 140 (0,0)) from hfo.box (heap_alloc_new w5.drew _) (PSa.out _).ns (by decide) (by decide))
    have HND:=hidP (show ∃ i:Nat,(L3.map Prod.fst)[i]?=some (zaE p)∧bs3[i]?=some nk from ⟨_,by rw [hL3];exact zlo _ _,hnk⟩)
    have hL3b:L3.length≤L.length+1:=by
     have h1:=congrArg List.length hL3
     have h2:=zjH (L.map Prod.fst) (zaE p)
     simp at h1 h2
     omega
    have hso:w5.heap.size<w6.heap.size:=zab ZBo.out
    clear hns hL3 hnk hfo hex hrw PSa BXa RBa HWd HWe
    obtain ⟨x0,x1,x2⟩:=cells3P BXo.out
    refine wpAnyH_ready (rs:=[7]) (by kernel_rfl) (by simp) ?_
    refine AllReadyH.cons (List.getElem?_toArray.trans rfl) (fun K hK=>?_) AllReadyH.nil
    go_simp
    (go_at_call 92;refine (HJT.out _ _ _ _ _ _ PSo.out).mono ?_;rintro e'' w7 ⟨⟨ta,tc,rfl,hto⟩,hbj⟩)
    (try go_wp2_with fail)
    refine hK.out _ _ ?hS20 (fun hHeld=>?_)
    case hS20=>((try dsimp only);exact ⟨zaa hbj x0,zaa hbj x1,zaa hbj x2⟩)
    clear hK K
    (first | simp only [pA,pZ,pS] | simp only [pN] | skip)
    have PSm:=hidP (PSo.out.bel hbj)
    have BXm:=hidP ((hbj.block _ (zab BXo.out)).trans BXo.out)
    have RBm:=hidP (RBo.out.bel hbj)
    have ZBm:=hidP ((hbj.block _ (zab ZBo.out)).trans ZBo.out)
    have TOm:=hidP (zan hto (show w.heap.size≤w6.heap.size by omega))
    have hsj:=hbj.size
    clear hto hbj x0 x1 x2 PSo BXo RBo ZBo
    refine tk 8 hHeld ?_
    (try simp only [pA,pZ,pS])
    obtain ⟨m0,m1,m2⟩:=cells3P BXm.out
    obtain ⟨o0,o1,o2,o3⟩:=cells4P ZBm.out
    have s0:w7.frozen? ⟨w5.heap.size,0,none⟩=false:=by simp [World.frozen?,ZBm.out]
    have s1:w7.frozen? ⟨w5.heap.size,1,none⟩=false:=by simp [World.frozen?,ZBm.out]
    have s2:w7.frozen? ⟨w5.heap.size,2,none⟩=false:=by simp [World.frozen?,ZBm.out]
    have s3:w7.frozen? ⟨w5.heap.size,3,none⟩=false:=by simp [World.frozen?,ZBm.out]
    have HLF:=hidP (fun wt (ht:Turned w7 wt w5.heap.size)=>cells3P (zcy BXm.out ZBm.out ht (by decide)))
    refine wpAnyH_ready (rs:=[10]) (by kernel_rfl) (by simp) ?_
    refine AllReadyH.cons (List.getElem?_toArray.trans rfl) (fun K hK=>?_) AllReadyH.nil
    go_simp
    refine hK.out _ _ ?hS22 (fun hHeld=>?_)
    case hS22=>((try dsimp only);exact HLF.out _ (Turned.setCells [_,_,_,_] 0 w7 _))
    clear hK K
    (first | simp only [pA,pZ,pS] | simp only [pN] | skip)
    refine wpAnyH_done (by kernel_rfl) ?_ _
    refine NoPanic.normal ?_
    go_upto_region 7 with fail
    refine zjp ZBm.out ?_
    intro w8 hq8 hT8
    obtain ⟨c0,c1,c2,c3⟩:=cells4P hq8
    have PS8:=hidP (PSm.out.fill ZBm.out hT8 (fun g hg=>by have:=HCO.out g hg;omega) (by omega))
    have BX8:=hidP (zcy BXm.out ZBm.out hT8 (by decide))
    have RB8:=hidP (show PlB w8 rb (.slice none 0 0) (.slice none 0 0) from zcy RBm.out ZBm.out hT8 (by decide))
    have TO8:=hidP (zbE TOm.out ZBm.out hT8 (by decide))
    have hs8:w7.heap.size≤w8.heap.size:=Nat.le_of_eq hT8.size.symm
    clear hT8 hq8 m0 m1 m2 o0 o1 o2 o3 s0 s1 s2 s3 HLF ZBm
    have htb8:tb<w8.heap.size:=zab BX8.out
    clear d0 d1 d2 HOF HJT hHeld
    obtain ⟨⟨q0,q1⟩,_,hpl⟩:=PS8.out.pn.box.facts
    have HW:=hidP (fun o=>(Below.refl _ _).alloc (Nat.le_refl _) o:∀ o,Below w8.heap.size w8 (w8.alloc o))
    have q0':∀ o,(w8.alloc o).cell? ⟨pb,0,none⟩=some (.slice ca X.length cc):=fun o=>zaa (HW.out o) q0
    have TY:=hidP (fun o g hg=>zai (zag PS8.out.pn.conds (HW.out o)) (k:=g) hg)
    have PBA:=hidP (fun o=>PS8.out.pn.box.bel (HW.out o))
    have RBA:=hidP (fun o=>RB8.out.bel (HW.out o))
    have BXA:=hidP (fun o=>((HW.out o).block _ (zab BX8.out)).trans BX8.out)
    have hBw8:w.heap.size≤w8.heap.size:=by omega
    go_upto_region 8 with (first | (at_builtin;refine zad (by rfl) (.tmp 27) (.tmp 29) 68 (by rfl) w.heap.size 140 _ 4 48 Tryz.underlying68 zlp (by rfl) (by omega) _ X.length _ (by rfl) (zag PS8.out.pn.conds (HW.out _)) (some ⟨_,0,none⟩) 1 1 (by rfl) (zb3 ⟨⟨p.neg,n,zaE p,zaz U p.terms p.terms.length⟩,nk,ta,tc⟩) (by rfl) (fun e=>by cases e) (zav _ _ _ _ (by first | rfl | simp)) (zlA _) (by unfold maxLen;omega) (by omega) (Nat.le_trans hBw8 (HW.out _).size) ?_;intro a9 c9 w9 ho9 hg9 hl9;have P9:=hidP (show PlB w9 pb (.slice ca X.length cc) (.slice va U.length vc) from zaI (PBA.out _) hg9.out (TY.out _) (by decide));have R9:=hidP (show PlB w9 rb (.slice none 0 0) (.slice none 0 0) from zaI (RBA.out _) hg9.out (TY.out _) (by decide));have B9:=hidP (zaI (BXA.out _) hg9.out (TY.out _) (by decide));obtain ⟨⟨l0,l1⟩,z,_⟩:=P9.out.facts;have z0':=z 0;clear z) | fail)
    refine zg9 P9.out ?_
    intro w10 hP10 ht10
    obtain ⟨cx,hcx⟩:∃ c:Cx,c=⟨⟨p.neg,n,zaE p,zaz U p.terms p.terms.length⟩,nk,ta,tc⟩:=⟨_,rfl⟩
    have PS10:=hidP (PS8.out.push (c:=⟨⟨p.neg,n,zaE p,zaz U p.terms p.terms.length⟩,nk,ta,tc⟩) TO8.out HND.out hpbw ho9.out hg9.out hP10 ht10)
    rw [← hcx] at PS10
    have HCX:=hidP hcx
    clear hcx
    have RB10:=hidP (show PlB w10 rb (.slice none 0 0) (.slice none 0 0) from (ht10.block rb (by omega)).trans R9.out)
    have BX10:=hidP ((ht10.block tb (by omega)).trans B9.out)
    obtain ⟨e0,e1,e2⟩:=cells3P BX10.out
    clear hP10 ht10 c0 c1 c2 c3 q0 q1 q0' l0 l1 z0' HW TY PBA RBA BXA P9 R9 B9 PS8 BX8 RB8 TO8 ho9 hg9 hl9
    rcases (show p.neg=false∨p.neg=true by cases p.neg <;> simp) with hneg | hneg
    ·have HPG:=hidP (show zaF r.pats [] 0=(X ++ [cx]).map Cx.cp ++ zaF (r.pats.drop (k+1)) (zar U p.terms n p.terms.length) (n+1) by rw [HG.out,HDR.out,zbQ,if_neg (by rw [hneg];simp),HCX.out];simp)
     have HVG:=hidP (show za0 r.pats [] 0=za0 (r.pats.drop (k+1)) (zar U p.terms n p.terms.length) (n+1) by rw [HVR.out,HDR.out,zbT,if_neg (by rw [hneg];simp)])
     have HBI:=hidP (zdq pb n p a_t c_t va vc U (.slice a9 (X ++ [cx]).length c9) w.heap.size wA w10 (HBL.out _ PS10.out.fr) HTM.out PS10.out.pn.box PS10.out.pn.vars (by omega) (by omega) PS10.out.fr.rest.size (by omega) (by omega))
     rw [hneg] at HBI e0
     clear hneg HG HVR HDR
     go_wp2_with fail
     refine HBI.out.mono ?_
     rintro e w11 ⟨rfl,⟨va',vc',hP11,hO11,_⟩,hF11,hA11⟩
     have PS11:=hidP (PS10.out.bindP hpbw hP11 hO11 hF11)
     have RB11:=hidP (show PlB w11 rb (.slice none 0 0) (.slice none 0 0) from (hF11.block rb (zab RB10.out) (by omega) (fun e=>by obtain ⟨c',hc'⟩:=zai PS10.out.pn.vars e;exact zaA hc' RB10.out (by decide))).trans RB10.out)
     have hU11:=zcj U p.terms n p.terms.length
     clear hP11 hO11 hF11 hA11 HBI PS10 RB10 BX10 e0 e1 e2
     go_wp2_with fail
     have PSX:=PS11.out
     rw [HR0.out,HB0.out,HL0.out] at PSX
     have PSX':=hidP PSX
     clear PSX
     go_roundw
     case rel=>exact ⟨k+1,n+1,la3,lc3,L3,bs3,D3,a9,c9,va',vc',_,_,by go_num,by go_num,by omega,HPG.out,HVG.out,by omega,by simp;omega,by omega,by omega,PSX'.out,RB11.out⟩
     case measure=>(simp [intOf];omega)
    ·have HPG:=hidP (show zaF r.pats [] 0=(X ++ [cx]).map Cx.cp ++ zaF (r.pats.drop (k+1)) U n by rw [HG.out,HDR.out,zbQ,if_pos hneg,HCX.out];simp)
     have HVG:=hidP (show za0 r.pats [] 0=za0 (r.pats.drop (k+1)) U n by rw [HVR.out,HDR.out,zbT,if_pos hneg])
     rw [hneg] at e0
     clear hneg HG HVR HDR
     go_wp2_with fail
     have PSX:=PS10.out
     rw [HR0.out,HB0.out,HL0.out] at PSX
     have PSX':=hidP PSX
     clear PSX
     go_roundw
     case rel=>exact ⟨k+1,n,la3,lc3,L3,bs3,D3,a9,c9,va,vc,_,U,by go_num,rfl,by omega,HPG.out,HVG.out,by omega,by simp;omega,by omega,by omega,PSX'.out,RB10.out⟩
     case measure=>(simp [intOf];omega)
  ·have hke:k=r.pats.length:=by omega
   subst hke
   have hy:¬ (r.pats.length:Int)<(r.pats.length:Int):=by omega
   obtain ⟨⟨q0,q1⟩,_,_⟩:=PSR.out.pn.box.facts
   obtain ⟨⟨r0,r1⟩,rz,hrl⟩:=RBR.out.facts
   have rz0:=rz 0
   have rz1:=rz 1
   have hXE:zaF r.pats [] 0=X.map Cx.cp:=by rw [HG.out,List.drop_length];simp [zaF]
   have hUE:za0 r.pats [] 0=U:=by rw [HVR.out,List.drop_length];rfl
   have HXE:=hidP hXE
   have HUE:=hidP hUE
   have hrp':rb≠pb:=by omega
   clear hXE hUE rz
   go_wp2_with fail
   refine bodyPost_ret (v:=.agg #[.slice ca X.length cc,.slice va U.length vc]) (by simp [results,Tryz.results52,go_sem,r0,r1]) rfl ?_
   have ht:Turned wr ((wr.setCell ⟨rb,0,none⟩ (.slice ca X.length cc)).setCell ⟨rb,1,none⟩ (.slice va U.length vc)) rb:=Turned.setCells [_,_] 0 wr rb
   refine ⟨la,lc,L,bs,D,ca,cc,va,vc,X,by rw [HUE.out],HXE.out.symm,PSR.out.ns.turnedC RBR.out ht (by unfold NTy;decide),?_,?_,?_,?_,?_,?_,PSR.out.six⟩
   ·rw [HUE.out]
    exact PSR.out.pn.pd.keptB fun k c t fr hk ht'=>(ht.block k (fun e=>by subst e;exact zaA RBR.out hk (by rcases ht' with rfl | rfl | rfl <;> decide))).trans hk
   ·rw [← HR0.out]
    exact PSR.out.fr.then_below (ht.below hrw0)
   ·rw [← HR0.out]
    exact PSR.out.rw'
   ·rw [← HB0.out]
    exact PSR.out.ext
   ·rw [← HL0.out]
    exact PSR.out.exa
   ·rw [← HL0.out]
    exact hLl
end Go.Proofs.YtmmdlgjmplddiaaGreat
namespace Go.Proofs.YtmmdlgjmplddiaaGreat
open Go.RowKit Go.Maps
structure Px where
 ca:Option Addr
 cc:Nat
 va:Option Addr
 vc:Nat
 X:List Cx
 U:List Vr
def zcS (x:Px):List Value:=[.slice x.ca x.X.length x.cc,.slice x.va x.U.length x.vc]
theorem zpb (x:Px):∀ u∈zcS x,u.oneCell'=true:=by
 intro u hu
 simp [zcS] at hu
 rcases hu with rfl | rfl <;> rfl
theorem zpd:(Tryz.prog.info? 71).map (fun i=>(i.zero,i.size,i.bytes))=some (some (.agg #[.slice none 0 0,.slice none 0 0]),2,48):=by kernel_rfl
structure PLS (w:World) (B:Nat) (a:Option Addr) (c:Nat) (P:List Px) (A:List Al) (bs:List Nat):Prop where
 row:w.ownsRow B 71 2 (.slice a P.length c) P.length (P.flatMap zcS)
 each:∀ x∈P,PD w B x.ca x.cc x.va x.vc x.X x.U A bs
theorem PLS.keptB {w w':World}{B:Nat}{a:Option Addr}{c:Nat}{P:List Px}{A:List Al}{bs:List Nat} (h:PLS w B a c P A bs) (hb:∀ (k:Nat) (c:Array Value) (t:TypeId) (fr:Nat × Nat),w.heap[k]?=some (.cells c t fr)→(t=71∨t=140∨t=215∨t=182)→w'.heap[k]?=some (.cells c t fr)):PLS w' B a c P A bs:=
 ⟨zae h.row fun k hk=>by
  obtain ⟨c',hc'⟩:=zai h.row hk
  rw [hb k _ _ _ hc' (.inl rfl),hc'],fun x hx=>(h.each x hx).keptB fun k c t fr hk ht=>hb k c t fr hk (.inr ht)⟩
theorem PLS.bel {w w':World}{B:Nat}{a:Option Addr}{c:Nat}{P:List Px}{A:List Al}{bs:List Nat} (h:PLS w B a c P A bs) (hb:Below w.heap.size w w'):PLS w' B a c P A bs:=
 h.keptB fun k _ _ _ hk _=>(hb.block k (zab hk)).trans hk
theorem PLS.ft {base:Nat}{w w':World}{B:Nat}{a:Option Addr}{c:Nat}{P:List Px}{A:List Al}{bs:List Nat} (h:PLS w B a c P A bs) (hf:FrT base w w'):PLS w' B a c P A bs:=
 h.keptB fun k c t fr hk ht=>hf.kept k c t fr hk (by rcases ht with rfl | rfl | rfl | rfl <;> decide) (by rcases ht with rfl | rfl | rfl | rfl <;> decide)
theorem PD.ext {w:World}{B:Nat}{ca:Option Addr}{cc:Nat}{va:Option Addr}{vc:Nat}{X:List Cx}{U:List Vr}{A A':List Al}{bs bs':List Nat} (h:PD w B ca cc va vc X U A bs) (ha:∀ (i:Nat) (y:Al),A[i]?=some y→A'[i]?=some y) (hb:∀ (i n:Nat),bs[i]?=some n→bs'[i]?=some n):PD w B ca cc va vc X U A' bs':=
 ⟨h.conds,h.vars,h.tests,fun c hc=>by
  obtain ⟨i,h1,h2⟩:=h.nodes c hc
  exact ⟨i,ha i _ h1,hb i _ h2⟩⟩
theorem PD.lower {w:World}{B B':Nat}{ca:Option Addr}{cc:Nat}{va:Option Addr}{vc:Nat}{X:List Cx}{U:List Vr}{A:List Al}{bs:List Nat} (h:PD w B ca cc va vc X U A bs) (hB:B'≤B):PD w B' ca cc va vc X U A bs:=
 ⟨zan h.conds hB,zan h.vars hB,fun c hc=>zan (h.tests c hc) hB,h.nodes⟩
theorem PLS.push {kl:Al→Lit}{w w6 w7:World}{base gb mb B:Nat}{la:Option Addr}{lc:Nat}{L L':List AlX}{bs bs':List Nat}{D:DataW Unit}{a a':Option Addr}{c c':Nat}{P:List Px}{x:Px}{o:Obj} (h:PLS w B a c P (L.map Prod.fst) bs) (hN:NS kl w base gb mb la lc L bs D) (hf:Fr3 gb mb (Value.slice la L.length lc).ownBlock w w6) (he:∀ (i n:Nat),bs[i]?=some n→bs'[i]?=some n) (ha:∀ (i:Nat) (y:Al),(L.map Prod.fst)[i]?=some y→(L'.map Prod.fst)[i]?=some y)
  (hx:PD w6 B x.ca x.cc x.va x.vc x.X x.U (L'.map Prod.fst) bs') (hg:(w6.alloc o).grownBy w7 (Value.slice a P.length c).ownBlock) (ho:w7.ownsRow B 71 2 (.slice a' (P.length+1) c') (P.length+1) (P.flatMap zcS ++ zcS x)):PLS w7 B a' c' (P ++ [x]) (L'.map Prod.fst) bs':=by
 have h6:PLS w6 B a c P (L.map Prod.fst) bs:=h.keptB fun k c t fr hk ht=>hf.box hk hN (by rcases ht with rfl | rfl | rfl | rfl <;> decide) (by rcases ht with rfl | rfl | rfl | rfl <;> decide)
 have hA:Below w6.heap.size w6 (w6.alloc o):=(Below.refl _ _).alloc (Nat.le_refl _) _
 have h7:=h6.bel hA
 have TY:=fun k hk=>zai h7.row (k:=k) hk
 have far:∀ (k:Nat) (c:Array Value) (t:TypeId) (fr:Nat × Nat),(w6.alloc o).heap[k]?=some (.cells c t fr)→(t=140∨t=215∨t=182)→w7.heap[k]?=some (.cells c t fr):=fun k c t fr hk ht=>zaI hk hg TY (by rcases ht with rfl | rfl | rfl <;> decide)
 refine ⟨by simpa using ho,fun y hy=>?_⟩
 rcases List.mem_append.1 hy with hy | hy
 ·exact ((h7.each y hy).ext ha he).keptB far
 ·rw [List.mem_singleton.1 hy]
  exact (hx.bel hA).keptB far
def qUp (a:Option Addr) (fs:List F):Nat→List (Value × F)
 | 0=>[]
 | k+1=>qUp a fs k ++ (match fs[k]?,a with | some f,some ad=>[(.pointer (some ⟨ad.block,ad.off+k * 3,none⟩),f)] | _,_=>[])
theorem zjr {b o:Nat}{fs:List F}{k:Nat}{f:F} (h:fs[k]?=some f):qUp (some ⟨b,o,none⟩) fs (k+1)=qUp (some ⟨b,o,none⟩) fs k ++ [(.pointer (some ⟨b,o+k * 3,none⟩),f)]:=by simp [qUp,h]
theorem zlS (a:Option Addr) (fs:List F):∀ k,(qUp a fs k).length≤k
 | 0=>Nat.le_refl _
 | k+1=>by
  have h:=zlS a fs k
  simp only [qUp,List.length_append]
  split <;> simp <;> omega
theorem zlU {w:World}{a:Option Addr}{fs:List F} (h:zaH w a fs):∀ k,k≤fs.length→(qUp a fs k).map Prod.snd=fs.take k∧∀ y∈qUp a fs k,zcG w y.1 y.2
 | 0,_=>⟨rfl,fun y hy=>by simp [qUp] at hy⟩
 | k+1,hk=>by
  obtain ⟨h1,h2⟩:=zlU h k (by omega)
  obtain ⟨f,hf⟩:∃ f,fs[k]?=some f:=⟨fs[k],by simp [show k<fs.length by omega]⟩
  obtain ⟨b,o,rfl,c0,c1,a',c,c2,hv⟩:=h k f hf
  rw [zjr hf]
  refine ⟨by rw [List.map_append,h1,List.take_add_one,hf];rfl,fun y hy=>?_⟩
  rcases List.mem_append.1 hy with hy | hy
  ·exact h2 y hy
  ·rw [List.mem_singleton.1 hy]
   exact ⟨b,o+k * 3,rfl,c0,c1,a',c,c2,hv⟩
theorem zi4 {x:Al}:∀ (Q:List (Value × F)),(sel x Q).map Prod.snd=(Q.map Prod.snd).filter (passes x)
 | []=>rfl
 | y :: r=>by
  unfold sel
  have ih:=zi4 (x:=x) r
  unfold sel at ih
  by_cases h:passes x y.2=true
  ·rw [List.filter_cons_of_pos (by simpa using h),List.map_cons,List.map_cons,List.filter_cons_of_pos h,ih]
  ·rw [List.filter_cons_of_neg (by simpa using h),List.map_cons,List.filter_cons_of_neg h,ih]
theorem zd2.owns {w:World}{base:Nat}{a:Option Addr}{c:Nat}{ts:List Jt} (h:w.ownsRow base 182 4 (.slice a ts.length c) ts.length (ts.flatMap zcr)):zd2 w a ts:=by
 intro i t hi
 have key:=fun j u (hj:(zcr t)[j]?=some u)=>zam h (za5 (cells:=zcr) (m:=4) (fun _=>rfl) ts i t j u hi hj)
 obtain ⟨k,rfl,_,h0,_⟩:=key 0 _ rfl
 obtain ⟨k1,e1,_,h1,_⟩:=key 1 _ rfl
 obtain ⟨k2,e2,_,h2,_⟩:=key 2 _ rfl
 obtain ⟨k3,e3,_,h3,_⟩:=key 3 _ rfl
 cases e1
 cases e2
 cases e3
 exact ⟨k,0,rfl,by simpa using h0,by simpa using h1,by simpa using h2,by simpa using h3⟩
def cnOf (fs:List F) (c:Cx):Cn:=⟨c.cp.neg,c.cp.at_,c.node,c.cp.tests,c.cp.alpha,fs.filter (passes c.cp.alpha)⟩
theorem zlJ (fs:List F) (c:Cx):CnCp fs (cnOf fs c) c.cp:=⟨rfl,rfl,rfl,rfl,rfl⟩
theorem PD.cns {w:World}{B base gb mb:Nat}{la:Option Addr}{lc:Nat}{L:List AlX}{bs:List Nat}{V:List Value}{Q:List (Value × F)}{fs:List F}{ca:Option Addr}{cc:Nat}{va:Option Addr}{vc:Nat}{X:List Cx}{U:List Vr} (h:PD w B ca cc va vc X U (L.map Prod.fst) bs) (hN:NF w base gb mb la lc L bs V (fun _=>Q)) (hQ:Q.map Prod.snd=fs) (hF:∀ y∈Q,zcG w y.1 y.2):zlC w ca (X.map (cnOf fs)):=by
 intro i d hi
 rw [List.getElem?_map] at hi
 obtain ⟨c,hc,rfl⟩:=Option.map_eq_some_iff.1 hi
 have key:=fun j u (hj:(zb3 c)[j]?=some u)=>zam h.conds (za5 (cells:=zb3) (m:=4) (fun _=>rfl) X i c j u hc hj)
 obtain ⟨k,rfl,_,h0,_⟩:=key 0 _ rfl
 obtain ⟨k1,e1,_,h1,_⟩:=key 1 _ rfl
 obtain ⟨k2,e2,_,h2,_⟩:=key 2 _ rfl
 obtain ⟨k3,e3,_,h3,_⟩:=key 3 _ rfl
 cases e1
 cases e2
 cases e3
 have hcm:=List.mem_of_getElem? hc
 obtain ⟨m,hA,hb⟩:=h.nodes c hcm
 rw [List.getElem?_map] at hA
 obtain ⟨x,hx,hxa⟩:=Option.map_eq_some_iff.1 hA
 have hml:m<L.length:=(List.getElem?_eq_some_iff.1 hx).1
 obtain ⟨v,hv⟩:∃ v,V[m]?=some v:=⟨V[m]'(by rw [hN.lenv];exact hml),by simp⟩
 obtain ⟨n1,_,⟨fa,fc,rfl⟩,n4⟩:=hN.node m x c.node v hx hb hv
 obtain ⟨na,nc,hnd⟩:=n1.nd (hN.als x (List.mem_of_getElem? hx))
 rw [hxa] at hnd n1 n4
 have hsl:(sel c.cp.alpha Q).map Prod.snd=fs.filter (passes c.cp.alpha):=by rw [zi4,hQ]
 have hlen:(sel c.cp.alpha Q).length=(fs.filter (passes c.cp.alpha)).length:=by rw [← hsl,List.length_map]
 obtain ⟨⟨_,_,_,y4⟩,_⟩:=n1.facts
 refine ⟨k,0,c.ta,c.tc,rfl,by simpa [cnOf] using h0,by simpa [cnOf] using h1,by simpa [cnOf] using h2,by simpa [cnOf] using h3,⟨zd2.owns (h.tests c hcm),⟨na,nc,hnd⟩,fa,fc,?_,?_⟩⟩
 ·show w.cell? ⟨c.node,4,none⟩=some (.slice fa (fs.filter (passes c.cp.alpha)).length fc)
  rw [← hlen]
  exact y4
 ·intro j f hj
  have hj':((sel c.cp.alpha Q).map Prod.snd)[j]?=some f:=by rw [hsl];exact hj
  rw [List.getElem?_map] at hj'
  obtain ⟨y,hy,rfl⟩:=Option.map_eq_some_iff.1 hj'
  obtain ⟨g,rfl,_,hg,_⟩:=zam n4 (show ((sel c.cp.alpha Q).map Prod.fst)[j]?=some y.1 by rw [List.getElem?_map,hy];rfl)
  exact ⟨g,0,y.1,rfl,by simpa using hg,hF y (List.mem_filter.1 (List.mem_of_getElem? hy)).1⟩
theorem zcH:∀ (ps:List Pt) (vs:List Vr) (n:Nat),(∀ p∈ps,p.terms.length≤6)→∀ d∈zaF ps vs n,d.tests.length≤6∧d.alpha.tests.length≤6
 | [],_,_,_,d,hd=>by simp [zaF] at hd
 | p :: ps,vs,n,h,d,hd=>by
  rw [zbQ] at hd
  have hr:∀ q∈ps,q.terms.length≤6:=fun q hq=>h q (by simp [hq])
  rcases List.mem_cons.1 hd with rfl | hd
  ·exact ⟨Nat.le_trans (zdI _ _ _) (h p (by simp)),zc7 p⟩
  ·split at hd
   ·exact zcH ps _ _ hr d hd
   ·exact zcH ps _ _ hr d hd
structure zld (w:World) (fs:List F) (ca:Option Addr) (va:Option Addr) (r:Ru) (cs:List Cn):Prop where
 conds:zlC w ca cs
 vars:zfG w va (za0 r.pats [] 0)
 len:cs.length=(zaF r.pats [] 0).length
 each:∀ (k:Nat) (c:Cn) (d:Cp),cs[k]?=some c→(zaF r.pats [] 0)[k]?=some d→CnCp fs c d
 small:∀ c∈cs,zpm c
theorem zld.below {w w':World}{fs:List F}{ca va:Option Addr}{r:Ru}{cs:List Cn} (h:zld w fs ca va r cs) (hb:Below w.heap.size w w'):zld w' fs ca va r cs:=⟨h.conds.below hb,h.vars.below hb,h.len,h.each,h.small⟩
theorem PD.pln {w:World}{B base gb mb:Nat}{la:Option Addr}{lc:Nat}{L:List AlX}{bs:List Nat}{V:List Value}{Q:List (Value × F)}{fs:List F}{ca:Option Addr}{cc:Nat}{va:Option Addr}{vc:Nat}{X:List Cx}{r:Ru} (h:PD w B ca cc va vc X (za0 r.pats [] 0) (L.map Prod.fst) bs) (hN:NF w base gb mb la lc L bs V (fun _=>Q)) (hQ:Q.map Prod.snd=fs) (hF:∀ y∈Q,zcG w y.1 y.2) (hX:X.map Cx.cp=zaF r.pats [] 0) (ht:∀ p∈r.pats,p.terms.length≤6) (hf:fs.length≤40):zld w fs ca va r (X.map (cnOf fs)):=by
 refine ⟨h.cns hN hQ hF,zfG.owns h.vars,by rw [← hX];simp,fun k c d hc hd=>?_,fun c hc=>?_⟩
 ·rw [← hX,List.getElem?_map] at hd
  rw [List.getElem?_map] at hc
  obtain ⟨x,hx,rfl⟩:=Option.map_eq_some_iff.1 hc
  rw [hx] at hd
  cases hd
  exact zlJ fs x
 ·obtain ⟨x,hx,rfl⟩:=List.mem_map.1 hc
  obtain ⟨h1,h2⟩:=zcH r.pats [] 0 ht x.cp (by rw [← hX];exact List.mem_map.2 ⟨x,hx,rfl⟩)
  exact ⟨Nat.le_trans h1 (by decide),Nat.le_trans (List.length_filter_le _ _) (by omega),Nat.le_trans h2 (by decide)⟩
end Go.Proofs.YtmmdlgjmplddiaaGreat
namespace Go.Proofs.YtmmdlgjmplddiaaGreat
open Go.RowKit Go.Maps
attribute [local go_sem ↓] Go.wp_at_zero Go.wp_at_succ
end Go.Proofs.YtmmdlgjmplddiaaGreat
namespace Go.Proofs.YtmmdlgjmplddiaaGreat
def zcU:List Cn→List F→List (List F)
 | [],T=>[T]
 | c :: cs,T=>if c.neg=true then (if c.facts.any (fun f=>c.tests.all (zaK T f))=true then [] else zcU cs T) else c.facts.flatMap (fun f=>if c.tests.all (zaK T f)=true then zcU cs (T ++ [f]) else [])
theorem zhO {c:Cn}{cs:List Cn}{T:List F} (h:c.neg=true):zcU (c :: cs) T=if c.facts.any (fun f=>c.tests.all (zaK T f))=true then [] else zcU cs T:=by
 simp only [zcU]
 rw [if_pos h]
theorem zhG {c:Cn}{cs:List Cn}{T:List F} (h:c.neg=false):zcU (c :: cs) T=c.facts.flatMap (fun f=>if c.tests.all (zaK T f)=true then zcU cs (T ++ [f]) else []):=by
 simp only [zcU]
 rw [if_neg (by rw [h];simp)]
theorem zde {α β:Type} (p q:α→Bool) (g:α→List β):∀ l:List α,(l.filter p).flatMap (fun x=>if q x=true then g x else [])=(l.filter (fun x=>p x && q x)).flatMap g
 | []=>rfl
 | x :: r=>by
  by_cases hp:p x=true
  ·by_cases hq:q x=true
   ·rw [List.filter_cons_of_pos hp,List.filter_cons_of_pos (by simp [hp,hq]),List.flatMap_cons,List.flatMap_cons,if_pos hq,zde p q g r]
   ·rw [List.filter_cons_of_pos hp,List.filter_cons_of_neg (by simp [hq]),List.flatMap_cons,if_neg hq,zde p q g r]
    rfl
  ·rw [List.filter_cons_of_neg hp,List.filter_cons_of_neg (by simp [hp]),zde p q g r]
theorem zjt {fs:List F}:∀ (cs:List Cn) (ds:List Cp),cs.length=ds.length→(∀ (k:Nat) (c:Cn) (d:Cp),cs[k]?=some c→ds[k]?=some d→CnCp fs c d)→∀ T,zcU cs T=exts ds fs T
 | [],[],_,_,_=>rfl
 | [],_ :: _,h,_,_=>by simp at h
 | _ :: _,[],h,_,_=>by simp at h
 | c :: cs,d :: ds,hl,he,T=>by
  obtain ⟨h1,h2,h3,h4,h5⟩:=he 0 c d rfl rfl
  have ih:=zjt cs ds (by simpa using hl) (fun k c' d' hc hd=>he (k+1) c' d' (by simpa using hc) (by simpa using hd))
  simp only [zcU,exts]
  rw [h1,h3,h5,zdL,zde]
  simp only [ih]
  rfl
def SrOk:List Cn→List F→Prop
 | [],_=>True
 | c :: cs,T=>c.at_=T.length∧(c.neg=false→T.length<3)∧(∀ f∈c.facts,∀ t∈c.tests,t.fits T f)∧(if c.neg=true then SrOk cs T else ∀ f∈c.facts,c.tests.all (zaK T f)=true→SrOk cs (T ++ [f]))
theorem VIn.snoc {T:List F}{vs:List Vr}{f:F} (h:VIn T vs):VIn (T ++ [f]) vs:=fun v hv=>by
 obtain ⟨g,h1,h2⟩:=h v hv
 exact ⟨g,by rw [List.getElem?_append_left (List.getElem?_eq_some_iff.1 h1).1];exact h1,h2⟩
theorem zfB {fs:List F}:∀ (ps:List Pt) (vs:List Vr) (T:List F) (cs:List Cn),KnR ps vs T.length→VIn T vs→T.length+positives ps≤3→cs.length=(zaF ps vs T.length).length→(∀ (k:Nat) (c:Cn) (d:Cp),cs[k]?=some c→(zaF ps vs T.length)[k]?=some d→CnCp fs c d)→SrOk cs T
 | [],_,_,[],_,_,_,_,_=>trivial
 | [],_,_,_ :: _,_,_,_,h,_=>by simp [zaF] at h
 | _ :: _,_,_,[],_,_,_,h,_=>by simp [zaF] at h
 | p :: ps,vs,T,c :: cs,hk,hV,hn,hl,he=>by
  obtain ⟨hg,_,hrest⟩:=hk
  simp only [zaF] at hl he
  obtain ⟨h1,h2,h3,h4,h5⟩:=he 0 c _ rfl rfl
  simp only at h1 h2 h3 h4 h5
  have hfit:∀ f∈c.facts,∀ t∈c.tests,t.fits T f:=fun f hf=>by
   rw [h5] at hf
   rw [h3]
   exact zlT hV hg (List.mem_filter.1 hf).2
  have he':∀ (k:Nat) (c':Cn) (d':Cp),cs[k]?=some c'→(if p.neg=true then zaF ps vs T.length else zaF ps (zar vs p.terms T.length p.terms.length) (T.length+1))[k]?=some d'→CnCp fs c' d':=fun k c' d' hc hd=>he (k+1) c' d' (by simpa using hc) (by simpa using hd)
  have hl':cs.length=(if p.neg=true then zaF ps vs T.length else zaF ps (zar vs p.terms T.length p.terms.length) (T.length+1)).length:=by simpa using hl
  by_cases hneg:p.neg=true
  ·have hpos:positives (p :: ps)=positives ps:=by simp [positives,pos1,hneg]
   rw [if_pos hneg] at hrest hl' he'
   refine ⟨h2,fun hc=>?_,hfit,?_⟩
   ·rw [h1,hneg] at hc
    cases hc
   ·rw [if_pos (by rw [h1];exact hneg)]
    exact zfB ps vs T cs hrest hV (by omega) hl' he'
  ·have hpos:positives (p :: ps)=positives ps+1:=by simp [positives,pos1,hneg]
   rw [if_neg hneg] at hrest hl' he'
   refine ⟨h2,fun _=>by omega,hfit,?_⟩
   rw [if_neg (by rw [h1];exact hneg)]
   intro f hf _
   rw [h5] at hf
   have hp:=(List.mem_filter.1 hf).2
   have hlen:(T ++ [f]).length=T.length+1:=by simp
   refine zfB ps _ (T ++ [f]) cs (by rw [hlen];exact hrest) (zjn hV.snoc (g:=f) (by simp) (zeD hg hp) _ (Nat.le_refl _)) (by rw [hlen];omega) (by rw [hlen];exact hl') (by rw [hlen];exact he')
end Go.Proofs.YtmmdlgjmplddiaaGreat
