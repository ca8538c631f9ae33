/-
  OUR OWN TEXT. In1, Fh1, Ga1, Nd7, Ma1, Ho1, Tk2a, Tk2, Tk3, Tk4, In2, Mm8, Yc4, one behind the other.
-/
import Derived.Test.YtmmdlgjmplddiaaGreatKax
import Derived.Test.YtmmdlgjmplddiaaGreatKbx
import Derived.Test.YtmmdlgjmplddiaaGreatKby
import Derived.Test.YtmmdlgjmplddiaaGreatKbu
import Derived.Test.YtmmdlgjmplddiaaGreatKaz
import Derived.Test.YtmmdlgjmplddiaaGreatKbr
import Derived.RangeFuncFrom
import Derived.RangeFuncBound
import Derived.RangeFuncCalls
import Derived.RangeFuncLeaves
import Derived.Shelf.Abstract
import Derived.OwnWalkIn
import Derived.TacticsInMore
import Derived.Deep.RegionWith
import Derived.Test.YtmmdlgjmplddiaaGreatKbz
namespace Go.Proofs.YtmmdlgjmplddiaaGreat
open Go.RowKit
def za4 (fs:List F):Nat→List Ru→List It
 | _,[]=>[]
 | i,r :: rs=>(allM r.pats fs [⟨[],[]⟩] 0).1.map (fun x=>(⟨(i:Int),x.tags⟩:It)) ++ za4 fs (i+1) rs
def zet (rs:List Ru) (fs:List F):List It:=if ready rs fs=true then za4 fs 0 rs else []
theorem zfA (fs:List F) (r:Ru):∀ (rs:List Ru) (i:Nat),za4 fs i (rs ++ [r])=za4 fs i rs ++ (allM r.pats fs [⟨[],[]⟩] 0).1.map (fun x=>(⟨((i+rs.length:Nat):Int),x.tags⟩:It))
 | [],i=>by simp [za4]
 | s :: rs,i=>by
  simp only [List.cons_append,za4]
  rw [zfA fs r rs (i+1),List.append_assoc,List.length_cons,show i+1+rs.length=i+(rs.length+1) by omega]
theorem zh7 (fs:List F) {rs:List Ru}{k:Nat}{r:Ru} (h:rs[k]?=some r):za4 fs 0 (rs.take (k+1))=za4 fs 0 (rs.take k) ++ (allM r.pats fs [⟨[],[]⟩] 0).1.map (fun x=>(⟨(k:Int),x.tags⟩:It)):=by
 have hk:k<rs.length:=(List.getElem?_eq_some_iff.1 h).1
 rw [List.take_add_one,h]
 simp only [Option.toList]
 rw [zfA,List.length_take,Nat.min_eq_left (by omega),Nat.zero_add]
theorem zi5 (p:Pt) (fs:List F) (hf:fs.length≤40) (x:Pm):(zcn p fs x).length≤40 ^ (positives [p]):=by
 have:=zeX p x fs
 unfold zcn positives
 by_cases hn:p.neg=true
 ·rw [if_pos hn]
  simp [pos1,hn]
  split <;> simp
 ·rw [if_neg hn]
  simp [pos1,hn]
  omega
theorem zgf (p:Pt) (fs:List F) (hf:fs.length≤40):∀ X:List Pm,(zbc p fs X).length≤X.length * 40 ^ (positives [p])
 | []=>by simp [zbc]
 | x :: r=>by
  have h1:=zgf p fs hf r
  have h2:=zi5 p fs hf x
  have h3:zbc p fs (x :: r)=zcn p fs x ++ zbc p fs r:=by unfold zbc;rw [List.flatMap_cons]
  rw [h3,List.length_append,List.length_cons,Nat.add_mul]
  omega
theorem zit (fs:List F) (hf:fs.length≤40):∀ (ps:List Pt) (xs:List Pm) (n:Nat),(allM ps fs xs n).1.length≤xs.length * 40 ^ positives ps
 | [],xs,n=>by simp [allM,positives]
 | r :: ps,xs,n=>by
  have h1:=zit fs hf ps (zbc r fs xs) (n+(zbc r fs xs).length)
  have h2:=zgf r fs hf xs
  have h3:positives (r :: ps)=positives [r]+positives ps:=by
   unfold positives
   rw [← List.countP_append]
   rfl
  simp only [allM]
  rw [h3,Nat.pow_add,← Nat.mul_assoc]
  exact Nat.le_trans h1 (Nat.mul_le_mul_right _ h2)
theorem zfp {rs:List Ru}{fs:List F} (h:ready rs fs=true) {r:Ru} (hr:r∈rs):(allM r.pats fs [⟨[],[]⟩] 0).1.length≤64000∧∀ x∈(allM r.pats fs [⟨[],[]⟩] 0).1,x.tags.length≤6:=by
 obtain ⟨hck,_,hf⟩:=zbD h
 obtain ⟨h6,ht6,h3⟩:=zd7 hck hr
 have h1:=zit fs hf r.pats [⟨[],[]⟩] 0
 have h2:40 ^ positives r.pats≤40 ^ 3:=Nat.pow_le_pow_right (by omega) h3
 rw [List.length_singleton,Nat.one_mul] at h1
 refine ⟨by simp at h2;omega,fun x hx=>?_⟩
 have:=(zgl fs r.pats [⟨[],[]⟩] 0 0 0 (by intro y hy;simp at hy;subst hy;simp) ht6 x hx).1
 omega
theorem ziw {rs:List Ru} (h:(chk rs).1=0):rs.length≤16:=by
 unfold chk at h
 split at h
 ·assumption
 ·simp at h
theorem zeG {fs:List F}:∀ (rs:List Ru) (i:Nat),(∀ r∈rs,(allM r.pats fs [⟨[],[]⟩] 0).1.length≤64000∧∀ x∈(allM r.pats fs [⟨[],[]⟩] 0).1,x.tags.length≤6)→(za4 fs i rs).length≤rs.length * 64000∧∀ y∈za4 fs i rs,y.tags.length≤6
 | [],i,_=>by simp [za4]
 | r :: rs,i,h=>by
  obtain ⟨h1,h2⟩:=zeG rs (i+1) (fun x hx=>h x (List.mem_cons_of_mem _ hx))
  obtain ⟨h3,h4⟩:=h r List.mem_cons_self
  simp only [za4]
  refine ⟨by rw [List.length_append,List.length_map,List.length_cons];omega,fun y hy=>?_⟩
  rcases List.mem_append.1 hy with hy | hy
  ·obtain ⟨x,hx,rfl⟩:=List.mem_map.1 hy
   exact h4 x hx
  ·exact h2 y hy
theorem zcB {rs:List Ru}{fs:List F} (h:ready rs fs=true) (k:Nat):(za4 fs 0 (rs.take k)).length≤1024000∧∀ y∈za4 fs 0 (rs.take k),y.tags.length≤6:=by
 have h1:=ziw (zbD h).1
 obtain ⟨h2,h3⟩:=zeG (fs:=fs) (rs.take k) 0 (fun r hr=>zfp h (List.mem_of_mem_take hr))
 refine ⟨?_,h3⟩
 rw [List.length_take] at h2
 omega
theorem zj7 (rs:List Ru) (fs:List F):(zet rs fs).length≤1024000∧∀ y∈zet rs fs,y.tags.length≤6:=by
 unfold zet
 split
 ·rename_i h
  have:=zcB h rs.length
  rwa [List.take_length] at this
 ·simp
def zeB (L:List It) (w:World) (e:Ending) (w':World):Prop:=(∃ a c M,e=.returned (.slice a (List.length M) c)∧Iw w' w.heap.size w.heap.size a c M∧M.map Prod.fst=L)∧Below w.heap.size w w'
theorem zeB.nil {L:List It}{w w':World} (hL:L=[]) (hb:Below w.heap.size w w'):zeB L w (.returned (.slice none 0 0)) w':=by
 subst hL
 exact ⟨⟨none,0,[],rfl,Iw.nil _ _ _,rfl⟩,hb⟩
theorem zeB.mk {L:List It}{w w':World}{a:Option Addr}{c:Nat}{M:List ItX} (hL:L=M.map Prod.fst) (h:Iw w' w.heap.size w.heap.size a c M) (hb:Below w.heap.size w w'):zeB L w (.returned (.slice a M.length c)) w':=by
 subst hL
 exact ⟨⟨a,c,M,rfl,h,rfl⟩,hb⟩
def zjO (L:List It) (w:World) (e:Ending) (w':World):Prop:=(∃ a c M,e=.returned (.slice a M.length c)∧Iw w' w.heap.size w.heap.size a c M∧M.map Prod.fst=L∧M.Pairwise (fun x y=>Apart x.2 y.2))∧Below w.heap.size w w'
end Go.Proofs.YtmmdlgjmplddiaaGreat
namespace Go.Proofs.YtmmdlgjmplddiaaGreat
def comb (fs:List F):Nat→List (List F)
 | 0=>[[]]
 | k+1=>(comb fs k).flatMap (fun S=>fs.map (fun f=>S ++ [f]))
def zeR (fs:List F):Nat→List (List F)
 | 0=>[[]]
 | k+1=>fs.flatMap (fun f=>(zeR fs k).map (fun S=>f :: S))
theorem zn0 {α:Type}:∀ l:List α,l.flatMap (fun f=>[[f]])=l.map (fun f=>[f])
 | []=>rfl
 | x :: r=>by rw [List.flatMap_cons,zn0 r];rfl
theorem zgp (fs:List F):∀ k,zeR fs (k+1)=(zeR fs k).flatMap (fun S=>fs.map (fun f=>S ++ [f]))
 | 0=>by
  show fs.flatMap (fun f=>[[f]])=[[]].flatMap (fun S=>fs.map (fun f=>S ++ [f]))
  rw [zn0]
  simp
 | k+1=>by
  have ih:=zgp fs k
  show fs.flatMap (fun f=>(zeR fs (k+1)).map (fun S=>f :: S))=(fs.flatMap (fun f=>(zeR fs k).map (fun S=>f :: S))).flatMap (fun S=>fs.map (fun f=>S ++ [f]))
  rw [List.flatMap_assoc]
  congr 1
  funext f
  rw [ih,List.map_flatMap,List.flatMap_map]
  congr 1
  funext S
  rw [List.map_map]
  rfl
theorem zjM (fs:List F):∀ k,zeR fs k=comb fs k
 | 0=>rfl
 | k+1=>by rw [zgp,zjM fs k];rfl
def okS:List Cp→List F→List F→List F→Bool
 | [],_,_,_=>true
 | c :: cs,fs,T,S=>if c.neg=true then !(fs.any (lets c T)) && okS cs fs T S else (match S with | []=>false | f :: S'=>lets c T f && okS cs fs (T ++ [f]) S')
def posC (cs:List Cp):Nat:=cs.countP (fun c=>!c.neg)
theorem zfM (fs:List F):∀ (cs:List Cp) (T:List F),exts cs fs T=((zeR fs (posC cs)).filter (okS cs fs T)).map (fun S=>T ++ S)
 | [],T=>by simp [exts,posC,zeR,okS]
 | c :: cs,T=>by
  cases hn:c.neg
  ·have hp:posC (c :: cs)=posC cs+1:=by simp [posC,hn]
   simp only [exts,hn,hp,zeR,List.filter_flatMap,List.map_flatMap]
   rw [if_neg (by simp)]
   have key:∀ l:List F,(l.filter (lets c T)).flatMap (fun f=>exts cs fs (T ++ [f]))=l.flatMap (fun f=>List.map (fun S=>T ++ S) (List.filter (okS (c :: cs) fs T) ((zeR fs (posC cs)).map (fun S=>f :: S)))):=by
    intro l
    induction l with
    | nil=>rfl
    | cons f r ih=>
     rw [List.flatMap_cons,← ih]
     have e:List.filter (okS (c :: cs) fs T) ((zeR fs (posC cs)).map (fun S=>f :: S))=if lets c T f=true then ((zeR fs (posC cs)).filter (okS cs fs (T ++ [f]))).map (fun S=>f :: S) else []:=by
      rw [List.filter_map]
      have e2:(okS (c :: cs) fs T ∘ fun S=>f :: S)=fun S=>lets c T f && okS cs fs (T ++ [f]) S:=by
       funext S
       simp [okS,hn]
      rw [e2]
      cases hl:lets c T f
      ·simp
      ·simp
     rw [e]
     cases hl:lets c T f
     ·rw [List.filter_cons_of_neg (by simp [hl])]
      simp
     ·rw [List.filter_cons_of_pos hl,List.flatMap_cons,zfM fs cs (T ++ [f])]
      simp
   exact key fs
  ·have hp:posC (c :: cs)=posC cs:=by simp [posC,hn]
   simp only [exts,hn,hp,if_true]
   cases ha:fs.any (lets c T)
   ·simp only [Bool.false_eq_true,if_false]
    rw [zfM fs cs T]
    congr 2
    funext S
    simp [okS,hn,ha]
   ·simp only [if_true]
    have e:okS (c :: cs) fs T=fun _=>false:=by
     funext S
     simp [okS,hn,ha]
    rw [e]
    simp
theorem zfx:∀ (ps:List Pt) (vs:List Vr) (n:Nat),posC (zaF ps vs n)=positives ps
 | [],_,_=>rfl
 | p :: ps,vs,n=>by
  unfold posC positives
  simp only [zaF,List.countP_cons]
  cases hn:p.neg
  ·have:=zfx ps (zar vs p.terms n p.terms.length) (n+1)
   unfold posC positives at this
   simp [pos1,hn,this]
  ·have:=zfx ps vs n
   unfold posC positives at this
   simp [pos1,hn,this]
theorem ziX {fs:List F}:∀ {k:Nat}{U:List F},U∈comb fs k→∀ f∈U,f∈fs
 | 0,U,h=>by
  simp [comb] at h
  simp [h]
 | k+1,U,h=>by
  simp only [comb,List.mem_flatMap,List.mem_map] at h
  obtain ⟨S,hS,f,hf,rfl⟩:=h
  intro g hg
  rcases List.mem_append.1 hg with hg | hg
  ·exact ziX hS g hg
  ·simp at hg
   exact hg ▸ hf
def zkC (fs:List F) (k:Nat):List (List Int):=(comb fs k).map (fun U=>U.map (·.tag))
theorem zdO {α β:Type}{f:α→β}{p:α→Bool}{q:β→Bool}:∀ {l:List α},(∀ x∈l,p x=q (f x))→(l.filter p).map f=(l.map f).filter q
 | [],_=>rfl
 | x :: r,h=>by
  have ih:=zdO (f:=f) (p:=p) (q:=q) (l:=r) (fun y hy=>h y (by simp [hy]))
  have hx:=h x (by simp)
  cases hp:p x
  ·rw [List.filter_cons_of_neg (by simp [hp]),List.map_cons,List.filter_cons_of_neg (by rw [← hx,hp];simp),ih]
  ·rw [List.filter_cons_of_pos hp,List.map_cons,List.map_cons,List.filter_cons_of_pos (by rw [← hx,hp]),ih]
theorem zgF {r:Ru}{fs:List F} (hc:(chk [r]).1=0) (hg:zaS fs=true):(allM r.pats fs [⟨[],[]⟩] 0).1.map (·.tags)=(zkC fs (positives r.pats)).filter (zgC r fs):=by
 have hk:=zim hc (r:=r) (by simp)
 have h':(allM r.pats fs [⟨[],[]⟩] 0).1.map (·.tags)=(exts (zaF r.pats [] 0) fs []).map (fun U=>U.map (·.tag)):=zhq fs r.pats [] [] 0 hk rfl (fun x hx=>by simp at hx)
 have hd:∀ f∈fs,∀ g∈fs,f.tag=g.tag→f=g:=by
  simp only [zaS,Bool.and_eq_true] at hg
  exact zin hg.2
 have hE:=zfM fs (zaF r.pats [] 0) []
 rw [zfx,zjM] at hE
 have hE':exts (zaF r.pats [] 0) fs []=(comb fs (positives r.pats)).filter (okS (zaF r.pats [] 0) fs []):=by
  rw [hE]
  simp
 rw [h',hE']
 unfold zkC
 refine zdO fun S hS=>?_
 have hrd:ready [r] fs=true:=by simp [ready,hc,hg]
 have hh:zgC r fs (S.map (·.tag))=true ↔ okS (zaF r.pats [] 0) fs [] S=true:=by
  unfold zgC
  rw [hrd,Bool.true_and,znk hk]
  constructor
  ·rintro ⟨U,hU,he⟩
   rw [hE'] at hU
   obtain ⟨hU1,hU2⟩:=List.mem_filter.1 hU
   rw [← zfD hd U S (ziX hU1) (ziX hS) he]
   exact hU2
  ·intro h
   exact ⟨S,by rw [hE'];exact List.mem_filter.2 ⟨hS,h⟩,rfl⟩
 cases h1:okS (zaF r.pats [] 0) fs [] S
 ·cases h2:zgC r fs (S.map (·.tag))
  ·rfl
  ·rw [hh.1 h2] at h1
   cases h1
 ·exact (hh.2 h1).symm
theorem zdM {fs:List F}{x:It}:∀ {rs:List Ru}{i:Nat},x∈za4 fs i rs→∃ k r,rs[k]?=some r∧x.rule=((i+k:Nat):Int)∧x.tags∈(allM r.pats fs [⟨[],[]⟩] 0).1.map (·.tags)
 | [],i,h=>by simp [za4] at h
 | r :: rs,i,h=>by
  simp only [za4] at h
  rcases List.mem_append.1 h with h | h
  ·obtain ⟨m,hm,rfl⟩:=List.mem_map.1 h
   exact ⟨0,r,rfl,rfl,List.mem_map.2 ⟨m,hm,rfl⟩⟩
  ·obtain ⟨k,r',h1,h2,h3⟩:=zdM h
   exact ⟨k+1,r',by simpa using h1,by rw [h2];congr 1;omega,h3⟩
theorem zka {pre:List Ru}{r:Ru} (h:(chk1 pre r).1=0):(chk1 [] r).1=0:=by
 unfold chk1 at h ⊢
 split at h
 ·simp at h
 ·split at h
  ·simp at h
  ·simp only [List.any_nil,Bool.false_eq_true,if_false]
   exact h
theorem zfF:∀ {s pre:List Ru}{k:Nat},(zcV pre s k).1=0→∀ r∈s,(chk1 [] r).1=0
 | [],_,_,_,r,hr=>by simp at hr
 | q :: s,pre,k,h,r,hr=>by
  unfold zcV at h
  split at h
  ·rename_i h0
   rcases List.mem_cons.1 hr with rfl | hr
   ·exact zka h0
   ·exact zfF h r hr
  ·rename_i h0
   exact absurd h h0
theorem zio {rs:List Ru} (h:(chk rs).1=0) {r:Ru} (hr:r∈rs):(chk [r]).1=0:=by
 unfold chk at h
 split at h
 ·have:=zfF h r hr
  unfold chk
  rw [if_pos (by simp)]
  unfold zcV
  rw [if_pos this]
  rfl
 ·simp at h
def before (rs:List Ru) (fs:List F) (i j:Nat) (r:Ru):Nat:=(za4 fs 0 (rs.take i)).length+(((zkC fs (positives r.pats)).take j).filter (zgC r fs)).length
section
variable {rs : List Ru} {fs : List F} {i : Nat} {r : Ru}
end
end Go.Proofs.YtmmdlgjmplddiaaGreat
namespace Go.Proofs.YtmmdlgjmplddiaaGreat
theorem ze7:∀ {fs:List F}{last:Int},zbs last fs=true→fs.Pairwise (fun f g=>f.tag≠g.tag)
 | [],_,_=>List.Pairwise.nil
 | f :: r,last,h=>by
  simp only [zbs,Bool.and_eq_true] at h
  refine List.Pairwise.cons (fun g hg=>?_) (ze7 h.2)
  have:=ze4 h.2 g hg
  omega
theorem zgG {fs:List F} (h:fs.Pairwise (fun f g=>f.tag≠g.tag)):∀ k,(comb fs k).Pairwise (fun U W=>U.map (·.tag)≠W.map (·.tag))
 | 0=>by simp [comb]
 | k+1=>by
  simp only [comb]
  rw [List.pairwise_flatMap]
  refine ⟨fun S _=>?_,?_⟩
  ·rw [List.pairwise_map]
   refine h.imp (fun {f g} hne e=>hne ?_)
   simpa using e
  ·refine (zgG h k).imp (fun {S S'} hne x hx y hy e=>hne ?_)
   obtain ⟨f,_,rfl⟩:=List.mem_map.1 hx
   obtain ⟨g,_,rfl⟩:=List.mem_map.1 hy
   simp only [List.map_append,List.map_cons,List.map_nil] at e
   exact (List.append_inj' e rfl).1
theorem zjk {fs:List F} (h:zaS fs=true) (k:Nat):(zkC fs k).Nodup:=by
 simp only [zaS,Bool.and_eq_true] at h
 unfold zkC List.Nodup
 rw [List.pairwise_map]
 exact zgG (ze7 h.2) k
theorem zeH {fs:List F} (hg:zaS fs=true):∀ (rs:List Ru) (i:Nat),(∀ r∈rs,(chk [r]).1=0)→((za4 fs i rs).map itIn).Nodup
 | [],_,_=>List.Pairwise.nil
 | r :: rs,i,h=>by
  have ih:=zeH hg rs (i+1) (fun q hq=>h q (by simp [hq]))
  have hr:=zgF (h r (by simp)) hg
  have e:(allM r.pats fs [⟨[],[]⟩] 0).1.map (fun x=>(⟨(i:Int),x.tags⟩:It))=((zkC fs (positives r.pats)).filter (zgC r fs)).map (fun t=>(⟨(i:Int),t⟩:It)):=by
   rw [← hr,List.map_map]
   rfl
  simp only [za4]
  rw [e,List.map_append,List.nodup_append]
  refine ⟨?_,ih,fun x hx y hy hxy=>?_⟩
  ·rw [List.map_map]
   unfold List.Nodup
   rw [List.pairwise_map]
   refine ((zjk hg _).filter _).imp (fun {s t} hne e=>hne ?_)
   simpa [itIn] using e
  ·obtain ⟨x',hx',rfl⟩:=List.mem_map.1 hx
   obtain ⟨t,_,rfl⟩:=List.mem_map.1 hx'
   obtain ⟨y',hy',rfl⟩:=List.mem_map.1 hy
   obtain ⟨k,_,_,h2,_⟩:=zdM hy'
   have:(i:Int)=y'.rule:=congrArg In.rule hxy
   omega
end Go.Proofs.YtmmdlgjmplddiaaGreat
namespace Go.Proofs.YtmmdlgjmplddiaaGreat
open Go.RowKit Go.Maps
attribute [local go_sem ↓] Go.wp_at_zero Go.wp_at_succ
structure Lko (E B:Nat) (w w':World):Prop where
 os:w'.os=w.os
 tape:w'.tape=w.tape
 output:w'.output=w.output
 size:w.heap.size≤w'.heap.size
 block:∀ g,g<w.heap.size→(g<E∨B≤g)→w'.heap[g]?=w.heap[g]?
theorem Lko.refl (E B:Nat) (w:World):Lko E B w w:=⟨rfl,rfl,rfl,Nat.le_refl _,fun _ _ _=>rfl⟩
theorem Lko.of_below {E B:Nat}{w w':World} (h:Below w.heap.size w w'):Lko E B w w':=⟨h.os,h.tape,h.output,h.size,fun g hg _=>h.block g hg⟩
theorem Lko.of_turned {E B b:Nat}{w w':World} (h:Turned w w' b) (h1:E≤b) (h2:b<B):Lko E B w w':=⟨h.os,h.tape,h.output,Nat.le_of_eq h.size.symm,fun g _ h3=>h.block g (by omega)⟩
theorem Lko.trans {E B:Nat}{u v w:World} (h:Lko E B u v) (k:Lko E B v w):Lko E B u w:=⟨k.os.trans h.os,k.tape.trans h.tape,k.output.trans h.output,Nat.le_trans h.size k.size,fun g hg h3=>(k.block g (Nat.lt_of_lt_of_le hg h.size) h3).trans (h.block g hg h3)⟩
theorem Lko.below {E B:Nat}{u v w:World} (k:Below E u v) (hE:E≤v.heap.size) (h:Lko E B v w):Below E u w:=⟨h.os.trans k.os,h.tape.trans k.tape,h.output.trans k.output,Nat.le_trans k.size h.size,fun g hg=>(h.block g (Nat.lt_of_lt_of_le hg hE) (.inl hg)).trans (k.block g hg)⟩
theorem Lko.own {E B base:Nat}{w w':World}{e:TypeId}{m:Nat}{v:Value}{n:Nat}{xs:List Value} (h:Lko E B w w') (ho:w.ownsRow base e m v n xs) (hB:B≤base):w'.ownsRow base e m v n xs:=
 zae ho fun k hk=>h.block k (ho.lt k hk).2 (.inr (Nat.le_trans hB (ho.lt k hk).1))
theorem PD.lk {E B base:Nat}{w w':World}{ca:Option Addr}{cc:Nat}{va:Option Addr}{vc:Nat}{X:List Cx}{U:List Vr}{A:List Al}{bs:List Nat} (h:PD w base ca cc va vc X U A bs) (hl:Lko E B w w') (hB:B≤base):PD w' base ca cc va vc X U A bs:=
 ⟨hl.own h.conds hB,hl.own h.vars hB,fun c hc=>hl.own (h.tests c hc) hB,h.nodes⟩
theorem PLS.lk {E B base:Nat}{w w':World}{a:Option Addr}{c:Nat}{P:List Px}{A:List Al}{bs:List Nat} (h:PLS w base a c P A bs) (hl:Lko E B w w') (hB:B≤base):PLS w' base a c P A bs:=
 ⟨hl.own h.row hB,fun x hx=>(h.each x hx).lk hl hB⟩
theorem NF.lk {E B:Nat}{w w':World}{base gb mb:Nat}{la:Option Addr}{lc:Nat}{L:List AlX}{bs:List Nat}{V:List Value}{QQ:Nat→List (Value × F)} (h:NF w base gb mb la lc L bs V QQ) (hl:Lko E B w w') (hB:B≤base) (hg:B≤gb):NF w' base gb mb la lc L bs V QQ:=
 ⟨(hl.block gb (zab h.box) (.inr hg)).trans h.box,hl.own h.row hB,h.lenb,h.lenv,fun i x b v hx hb' hv=>by
  obtain ⟨h1,h2,h3,h4⟩:=h.node i x b v hx hb' hv
  exact ⟨(hl.block b (zab h1) (.inr (Nat.le_trans hB h2))).trans h1,h2,h3,hl.own h4 hB⟩,fun x hx=>⟨(h.als x hx).1,hl.own (h.als x hx).2 hB⟩,h.apart⟩
structure Pw where
 ca:Option Addr
 cc:Nat
 va:Option Addr
 vc:Nat
 cs:List Cn
def zhL (w:World) (B:Nat) (fs:List F) (a:Option Addr) (rs:List Ru) (PW:List Pw):Prop:=
 ∀ (i:Nat) (r:Ru) (x:Pw),rs[i]?=some r→PW[i]?=some x→∃ b o,a=some ⟨b,o,none⟩∧B≤b∧w.cell? ⟨b,o+i * 2,none⟩=some (.slice x.ca x.cs.length x.cc)∧w.cell? ⟨b,o+i * 2+1,none⟩=some (.slice x.va (za0 r.pats [] 0).length x.vc)∧zld w fs x.ca x.va r x.cs∧x.cs.length≤x.cc∧w.ownsRow B 215 3 (.slice x.va (za0 r.pats [] 0).length x.vc) (za0 r.pats [] 0).length ((za0 r.pats [] 0).flatMap zbJ)
theorem zhL.below {w w':World}{B:Nat}{fs:List F}{a:Option Addr}{rs:List Ru}{PW:List Pw} (h:zhL w B fs a rs PW) (hb:Below w.heap.size w w'):zhL w' B fs a rs PW:=by
 intro i r x hi hx
 obtain ⟨b,o,e,hB,h0,h1,h2,h3,h4⟩:=h i r x hi hx
 exact ⟨b,o,e,hB,zaa hb h0,zaa hb h1,h2.below hb,h3,zag h4 hb⟩
theorem zhL.lower {w:World}{B B':Nat}{fs:List F}{a:Option Addr}{rs:List Ru}{PW:List Pw} (h:zhL w B fs a rs PW) (hB':B'≤B):zhL w B' fs a rs PW:=by
 intro i r x hi hx
 obtain ⟨b,o,e,hB,h0,h1,h2,h3,h4⟩:=h i r x hi hx
 exact ⟨b,o,e,Nat.le_trans hB' hB,h0,h1,h2,h3,zan h4 hB'⟩
theorem zky {fs:List F} (h:zaS fs=true):fs.length≤40:=by
 have h':(decide (fs.length≤40) && zbs 0 fs)=true:=h
 simp only [Bool.and_eq_true,decide_eq_true_eq] at h'
 exact h'.1
def PxOf (P:List Px) (rs:List Ru) (k:Nat):Prop:=P.length=k∧∀ (i:Nat) (x:Px) (r:Ru),P[i]?=some x→rs[i]?=some r→x.X.map Cx.cp=zaF r.pats [] 0∧x.U=za0 r.pats [] 0
theorem PxOf.snoc {P:List Px}{rs:List Ru}{k:Nat}{x:Px}{r:Ru} (h:PxOf P rs k) (hr:rs[k]?=some r) (h1:x.X.map Cx.cp=zaF r.pats [] 0) (h2:x.U=za0 r.pats [] 0):PxOf (P ++ [x]) rs (k+1):=by
 refine ⟨by simp [h.1],fun i y q hy hq=>?_⟩
 by_cases hi:i<P.length
 ·rw [List.getElem?_append_left hi] at hy
  exact h.2 i y q hy hq
 ·have hil:i=P.length:=by
   have:=(List.getElem?_eq_some_iff.1 hy).1
   simp at this
   omega
  subst hil
  simp at hy
  subst hy
  rw [h.1,hr] at hq
  cases hq
  exact ⟨h1,h2⟩
theorem capP {w:World}{base:Nat}{e:TypeId}{m:Nat}{a:Option Addr}{n c:Nat}{xs:List Value} (h:w.ownsRow base e m (.slice a n c) n xs):n≤c:=by
 rcases h.2 with ⟨he,h0⟩ | ⟨g,cap,cur,he,_,_,hnc,_⟩
 ·rw [h0]
  exact Nat.zero_le _
 ·cases he
  exact hnc
structure Raw (wE w w':World) (fs:List F) (a:Option Addr) (c:Nat) (rs:List Ru) (base gb mb:Nat) (la:Option Addr) (lc:Nat) (L:List AlX) (bs:List Nat) (V:List Value) (P:List Px) (Q:List (Value × F)):Prop where
 px:PxOf P rs rs.length
 base_le:w.heap.size≤base
 mem:∀ w'',Lko wE.heap.size w.heap.size w' w''→PLS w'' base a c P (L.map Prod.fst) bs∧NF w'' base gb mb la lc L bs V (fun _=>Q)
 snd:Q.map Prod.snd=fs
 facs:∀ y∈Q,zcG wE y.1 y.2
def zoP (rs:List Ru) (fs:List F) (wE w:World) (e:Ending) (w':World):Prop:=
 (if ready rs fs=true then ∃ a c PW,e=.returned (.slice a rs.length c)∧List.length PW=rs.length∧(∀ w'',Lko wE.heap.size w.heap.size w' w''→zhL w'' w.heap.size fs a rs PW)∧(∃ base gb mb la lc L bs V P Q,Raw wE w w' fs a c rs base gb mb la lc L bs V P Q) else e=.returned (.slice none 0 0))∧Below w.heap.size w w'
theorem PLS.at {w:World}{B base gb mb:Nat}{la:Option Addr}{lc:Nat}{L:List AlX}{bs:List Nat}{V:List Value}{Q:List (Value × F)}{fs:List F}{a:Option Addr}{c:Nat}{P:List Px}{rs:List Ru} (h:PLS w B a c P (L.map Prod.fst) bs) (hN:NF w base gb mb la lc L bs V (fun _=>Q)) (hQ:Q.map Prod.snd=fs) (hF:∀ y∈Q,zcG w y.1 y.2) (hP:PxOf P rs rs.length) (ht:∀ r∈rs,∀ p∈r.pats,p.terms.length≤6) (hf:fs.length≤40):zhL w B fs a rs (P.map fun x=>⟨x.ca,x.cc,x.va,x.vc,x.X.map (cnOf fs)⟩):=by
 intro i r z hi hz
 have hil:i<P.length:=by rw [hP.1];exact (List.getElem?_eq_some_iff.1 hi).1
 obtain ⟨x,hx⟩:∃ x,P[i]?=some x:=⟨P[i],by simp [hil]⟩
 obtain ⟨hX,hU⟩:=hP.2 i x r hx hi
 have key:=fun j u (hj:(zcS x)[j]?=some u)=>zam h.row (za5 (cells:=zcS) (m:=2) (fun _=>rfl) P i x j u hx hj)
 obtain ⟨k,rfl,hkB,h0,_⟩:=key 0 _ rfl
 obtain ⟨k1,e1,_,h1,_⟩:=key 1 _ rfl
 cases e1
 have hpd:=h.each x (List.mem_of_getElem? hx)
 have hcap:=capP hpd.conds
 rw [hU] at hpd h1
 rw [List.getElem?_map,hx] at hz
 cases hz
 exact ⟨k,0,rfl,hkB,by simpa using h0,by simpa using h1,hpd.pln hN hQ hF hX (ht r (List.mem_of_getElem? hi)) hf,by simpa using hcap,hpd.vars⟩
set_option maxRecDepth 100000 in
set_option maxHeartbeats 12800000 in
theorem zg7 (rs:List Ru) (a:Option Addr) (c:Nat) (fs:List F) (fa:Option Addr) (fc:Nat) {q:Option Nat} (wE w:World) (hE:Below wE.heap.size wE w) (hv:zbR q w a rs) (hc:rs.length≤c) (hle:zbu Ru.le 1048576 rs) (ho:∀ x∈rs,zdF x.exprs) (hvo:∀ r∈rs,∀ p∈r.pats,∀ t∈p.terms,VOk t.val) (hfe:zaH wE fa fs) (hfl:fs.length≤1048576) (hfs:∀ f∈fs,Sized f) :
  Calls Tryz.prog 21 #[.slice a rs.length c,.slice fa fs.length fc] w (zoP rs fs wE w):=by
 have hfa:=hfe.below hE
 obtain ⟨kl,K⟩:=KLA.exist
 have HV:=hidP hv
 have HLE:=hidP hle
 have HVO:=hidP hvo
 have HFA:=hidP hfa
 have HFE:=hidP hfe
 have HE:=hidP hE
 have hEs:=hE.size
 have HC:=hidP (zcz a c rs w hv hc hle ho)
 have HGF:=hidP (fun w' (hb:Below w.heap.size w w')=>zho fa fc fs w' (hfa.below hb) hfl hfs)
 clear hv hle hvo hfa hfs ho hfe hE
 unfold ckV at HC
 have hfd:∀ (p0 p1 p2:Int) (w:World),(Instr.field 93 (.agg #[.int .i64 p0,.int .i64 p1,.int .i64 p2]) 0).run Tryz.prog w=.ok (.int .i64 p0) w:=fun _ _ _ _=>by kernel_rfl
 by_cases hck:(chk rs).1=0
 ·have h16:=(zeV hck).1
  have HSM:=hidP (fun r (hr:r∈rs)=>zd7 hck hr)
  have HRD:=hidP (show ready rs fs=zaS fs by unfold ready;rw [decide_eq_true hck];simp)
  have hcn:((chk rs).1 != 0)=false:=by simpa using hck
  have hcb:((chk rs).1==0)=true:=by simpa using hck
  generalize (chk rs).1=p0 at HC hck hcn hcb
  generalize (chk rs).2.1=p1 at HC
  generalize (chk rs).2.2=p2 at HC
  clear hck
  cases hg:zaS fs
  ·have HRF:=hidP (show ready rs fs=false by rw [HRD.out,hg])
   rw [hg] at HGF
   clear hg
   go_enter Tryz.func21,Tryz.ntmps21
   go_wp2_with fail
   refine HC.out.mono ?_
   rintro e w1 ⟨rfl,hb1⟩
   have B1:=hidP hb1
   have GF:=hidP (HGF.out w1 hb1)
   clear hb1 HC HGF
   go_wp2_with fail
   refine GF.out.mono ?_
   rintro e w2 ⟨rfl,hb2⟩
   have B2:=hidP (B1.out.trans (hb2.mono B1.out.size))
   clear hb2 GF
   go_wp2_with fail
   go_ret
   exact ⟨by rw [HRF.out];simp,B2.out⟩
  ·have HRF:=hidP (show ready rs fs=true by rw [HRD.out,hg])
   have hf40:=zky hg
   rw [hg] at HGF
   clear hg
   go_enter Tryz.func21,Tryz.ntmps21
   go_wp2_with fail
   refine HC.out.mono ?_
   rintro e w1 ⟨rfl,hb1⟩
   have B1:=hidP hb1
   have GF:=hidP (HGF.out w1 hb1)
   clear hb1 HC HGF
   go_wp2_with fail
   refine GF.out.mono ?_
   rintro e w2 ⟨rfl,hb2⟩
   have B2:=hidP (B1.out.trans (hb2.mono B1.out.size))
   have hs2:=B2.out.size
   clear hb2 GF B1 hfd hcn hcb
   go_wp2_with fail
   refine (zh3 kl w2).mono ?_
   rintro e w3 ⟨rfl,hns3,hb3⟩
   have G3:=hidP hns3
   have B3:=hidP (B2.out.trans (hb3.mono B2.out.size))
   have hs3:=hb3.size
   clear hns3 hb3 B2
   obtain ⟨gb,hgb⟩:∃ gb,gb=w2.heap.size+1:=⟨_,rfl⟩
   obtain ⟨base,hbs⟩:∃ v,v=w2.heap.size:=⟨_,rfl⟩
   rw [← hgb] at G3 ⊢
   rw [← hbs] at G3 hs2 hs3
   have hgbB:base≤gb:=by omega
   clear hgb hbs
   go_wp2_with fail
   go_loopw [22,6] (fun iv pv wr=>∃ (k:Nat) (pa:Option Addr) (pc:Nat) (P:List Px) (la:Option Addr) (lc:Nat) (L:List AlX) (bs:List Nat) (D:DataW Unit),iv=.int .i64 (k:Int)∧pv=.slice pa P.length pc∧k≤rs.length∧P.length≤k∧PxOf P rs k∧L.length≤6 * k∧(∀ x∈L,x.1.tests.length≤6)∧NS kl wr base gb base la lc L bs D∧PLS wr base pa pc P (L.map Prod.fst) bs∧Below w.heap.size w wr∧base≤wr.heap.size) (fun iv _ _=>rs.length - (intOf iv).toNat)
   case atStart=>exact ⟨0,none,0,[],none,0,[],[],_,rfl,rfl,Nat.zero_le _,Nat.le_refl _,⟨rfl,fun i x r hx=>by simp at hx⟩,Nat.le_refl _,fun x hx=>by simp at hx,G3.out,⟨World.ownsRow_nil _ _ _ _,fun x hx=>by simp at hx⟩,B3.out,hs3⟩
   case round=>
    obtain ⟨k,pa,pc,P,la,lc,L,bs,D,rfl,rfl,hkl,hPl,hPx,hLl,hsix,hNS,hPLS,hB,hbw⟩:=hrel
    have PX:=hidP hPx
    have SIX:=hidP hsix
    have G:=hidP hNS
    have PL:=hidP hPLS
    have B:=hidP hB
    clear hPx hsix hNS hPLS hB G3 B3
    by_cases hk:k<rs.length
    ·obtain ⟨r,hr⟩:∃ r,rs[k]?=some r:=⟨rs[k],by simp [hk]⟩
     obtain ⟨rb,ro,a_p,c_p,a_e,c_e,a_c,c_c,rfl,_,c0,c1,c2,c3,c4,h_p,_,_,_⟩:=HV.out.get hr
     have d0:=zaa B.out c0
     have d1:=zaa B.out c1
     have d2:=zaa B.out c2
     have d3:=zaa B.out c3
     have d4:=zaa B.out c4
     have hrm:=List.mem_of_getElem? hr
     obtain ⟨hp6,ht6,_⟩:=HSM.out r hrm
     have HNP:=hidP (fun w' (hN:NS kl w' base gb base la lc L bs D) (hA:Below w.heap.size w w') (hb:base≤w'.heap.size)=>ziI kl K r a_p c_p a_e c_e a_c c_c base gb base la lc L bs D w w' hA hs2 hb h_p hN hp6 ht6 (HLE.out.2 r hrm).2.1.2 (HVO.out r hrm) (by omega) SIX.out)
     have HR:=hidP hr
     have z0:(0:Int)≤(k:Int):=by omega
     have z1:(k:Int)<(rs.length:Int):=by omega
     clear c0 c1 c2 c3 c4 h_p hr ht6 hrm
     go_upto_region 8 with fail
     refine zaj ?_
     intro w5 hW5 hq5
     have y0:w5.cell? ⟨wr.heap.size,0,none⟩=some (.string r.name):=by simp [World.cell?,hq5]
     have y1:w5.cell? ⟨wr.heap.size,1,none⟩=some (.int .i64 r.sal):=by simp [World.cell?,hq5]
     have y2:w5.cell? ⟨wr.heap.size,2,none⟩=some (.slice a_p r.pats.length c_p):=by simp [World.cell?,hq5]
     have y3:w5.cell? ⟨wr.heap.size,3,none⟩=some (.slice a_e r.exprs.length c_e):=by simp [World.cell?,hq5]
     have y4:w5.cell? ⟨wr.heap.size,4,none⟩=some (.slice a_c r.acts.length c_c):=by simp [World.cell?,hq5]
     have G5:=hidP (G.out.bel hW5)
     have PL5:=hidP (PL.out.bel hW5)
     have B5:=hidP (B.out.trans (hW5.mono B.out.size))
     have hs5:=hW5.size
     have hb5:base≤w5.heap.size:=by omega
     clear hW5 hq5 d0 d1 d2 d3 d4 G PL B
     go_wp2_with fail
     refine (HNP.out w5 G5.out B5.out hb5).mono ?_
     rintro e w6 ⟨la',lc',L',bs',D',ca,cc,va,vc,X,rfl,hX,hns,hpd,hfr,_,hex,hexa,hLl',h6⟩
     have hR6:=hidP (hfr.own PL5.out.row G5.out (by decide) (by decide))
     have G6:=hidP hns
     have PD6:=hidP (hpd.lower hb5)
     have FR6:=hidP hfr
     have EX:=hidP hex
     have EXA:=hidP hexa
     have HX:=hidP hX
     have H6:=hidP h6
     have hs6:=hfr.rest.size
     have hB6:base≤w6.heap.size:=by omega
     have B6:=hidP (B5.out.trans (hfr.below B5.out.size (Nat.le_trans hs2 G5.out.gbase.1) (Nat.le_trans hs2 G5.out.gbase.2) (fun g hg=>Nat.le_trans hs2 (G5.out.row.lt g hg).1)))
     have HW:=hidP (fun o=>(Below.refl _ _).alloc (Nat.le_refl _) o:∀ o,Below w6.heap.size w6 (w6.alloc o))
     have TY:=hidP (fun o g hg=>zai (zag hR6.out (HW.out o)) (k:=g) hg)
     clear hX hns hpd hfr hex hexa h6 y0 y1 y2 y3 y4 HNP
     go_wp2_with (first | (at_builtin;refine zad (by rfl) (.tmp 26) (.tmp 30) 66 (by rfl) base 71 _ 2 48 Tryz.underlying66 zpd (by rfl) (by omega) _ P.length _ (by rfl) (zag hR6.out (HW.out _)) (some ⟨_,0,none⟩) 1 1 (by rfl) (zcS ⟨ca,cc,va,vc,X,za0 r.pats [] 0⟩) (by rfl) (fun e=>by cases e) (zav _ _ _ _ (by first | rfl | simp)) (zpb _) (by unfold maxLen;omega) (by omega) (Nat.le_trans hB6 (HW.out _).size) ?_;intro a7 c7 w7 ho7 hg7 hl7) | fail)
     have PL7:=hidP (PL5.out.push (x:=⟨ca,cc,va,vc,X,za0 r.pats [] 0⟩) G5.out FR6.out EX.out EXA.out PD6.out hg7.out ho7.out)
     have G7:=hidP ((G6.out.bel (HW.out _)).grown hg7.out (TY.out _) (by unfold NTy;decide))
     have hs7:=hg7.out.size
     simp at hs7
     have B7:=hidP ((B6.out.trans ((HW.out _).mono B6.out.size)).grown hg7.out (Nat.le_trans B6.out.size (HW.out _).size) (fun g hg=>Nat.le_trans hs2 (hR6.out.lt g hg).1))
     have PX7:=hidP (PX.out.snoc (x:=⟨ca,cc,va,vc,X,za0 r.pats [] 0⟩) HR.out HX.out rfl)
     clear hl7
     go_roundw
     case rel=>exact ⟨k+1,a7,c7,P ++ [⟨ca,cc,va,vc,X,za0 r.pats [] 0⟩],la',lc',L',bs',D',by go_num,by simp,by omega,by simp;omega,PX7.out,by omega,H6.out,G7.out,PL7.out,B7.out,by omega⟩
     case measure=>(simp [intOf];omega)
    ·have hke:k=rs.length:=by omega
     subst hke
     have hy:¬ (rs.length:Int)<(rs.length:Int):=by omega
     have NF0:=hidP (NF.ofNS G.out)
     obtain ⟨wQ,hwQ⟩:∃ v,v=wr:=⟨wr,rfl⟩
     rw [← hwQ] at NF0 PL B hbw ⊢
     clear G hwQ
     go_wp2_with fail
     go_loopw [35] (fun iv wr=>∃ (k:Nat) (V:List Value),iv=.int .i64 (k:Int)∧k≤fs.length∧NF wr base gb base la lc L bs V (fun _=>qUp fa fs k)∧FrT base wQ wr) (fun iv _=>fs.length - (intOf iv).toNat)
     case atStart=>exact ⟨0,_,rfl,Nat.zero_le _,NF0.out,FrT.refl _ _⟩
     case round=>
      obtain ⟨j,V,rfl,hjl,hNF,hFT⟩:=hrel
      have NR:=hidP hNF
      have FT:=hidP hFT
      have AR:=hidP (B.out.trans (hFT.rest.mono hs2))
      have hsr:=hFT.rest.size
      have hbr:base≤wr.heap.size:=by omega
      clear hNF hFT NF0
      by_cases hj:j<fs.length
      ·obtain ⟨f,hf⟩:∃ f,fs[j]?=some f:=⟨fs[j],by simp [hj]⟩
       obtain ⟨fb,fo,rfl,c0,c1,sa,sc,c2,hsv⟩:=HFA.out j f hf
       have hql:=zlS (some ⟨fb,fo,none⟩) fs j
       have HAD:=hidP (zhP base gb base la lc L bs V (qUp (some ⟨fb,fo,none⟩) fs j) (.pointer (some ⟨fb,fo+j * 3,none⟩)) f w wr AR.out hs2 ⟨fb,fo+j * 3,rfl,c0,c1,sa,sc,c2,hsv⟩ NR.out hbr (by omega) (by omega) (fun x hx=>Nat.le_trans (SIX.out x hx) (by decide)))
       have HQ:=hidP (zjr (b:=fb) (o:=fo) hf)
       have z0:(0:Int)≤(j:Int):=by omega
       have z1:(j:Int)<(fs.length:Int):=by omega
       clear hf c0 c1 c2 hsv
       go_wp2_with fail
       refine HAD.out.mono ?_
       rintro e w8 ⟨rfl,⟨V',hN8⟩,hF8⟩
       have N8:=hidP hN8
       have F8:=hidP (FT.out.trans hF8)
       clear hN8 hF8 HAD
       go_wp2_with fail
       go_roundw
       case rel=>exact ⟨j+1,V',by go_num,by omega,by rw [HQ.out];exact N8.out,F8.out⟩
       case measure=>(simp [intOf];omega)
      ·have hje:j=fs.length:=by omega
       subst hje
       have hy2:¬ (fs.length:Int)<(fs.length:Int):=by omega
       go_wp2_with fail
       go_ret
       obtain ⟨q1,q2⟩:=zlU HFE.out fs.length (Nat.le_refl _)
       rw [List.take_length] at q1
       refine ⟨?_,AR.out⟩
       rw [HRF.out,if_pos rfl]
       refine ⟨pa,pc,P.map (fun x=>(⟨x.ca,x.cc,x.va,x.vc,x.X.map (cnOf fs)⟩:Pw)),by rw [PX.out.1];rfl,by rw [List.length_map,PX.out.1],fun w'' hlk=>?_,base,gb,base,la,lc,L,bs,V,P,_,⟨PX.out,hs2,fun w'' hlk=>⟨(PL.out.ft FT.out).lk hlk hs2,NR.out.lk hlk hs2 (Nat.le_trans hs2 hgbB)⟩,q1,q2⟩⟩
       have ARE:Below wE.heap.size wE wr:=HE.out.trans (AR.out.mono hEs)
       exact (((PL.out.ft FT.out).lk hlk hs2).at (NR.out.lk hlk hs2 (Nat.le_trans hs2 hgbB)) q1 (fun y hy=>(q2 y hy).below (Lko.below ARE (by omega) hlk)) PX.out (fun r hr=>(HSM.out r hr).2.1) hf40).lower hs2
 ·have HRF:=hidP (show ready rs fs=false by unfold ready;rw [decide_eq_false hck];simp)
  have hcn:((chk rs).1 != 0)=true:=by simpa using hck
  have hcb:((chk rs).1==0)=false:=by simpa using hck
  generalize (chk rs).1=p0 at HC hck hcn hcb
  generalize (chk rs).2.1=p1 at HC
  generalize (chk rs).2.2=p2 at HC
  clear hck
  go_enter Tryz.func21,Tryz.ntmps21
  go_wp2_with fail
  refine HC.out.mono ?_
  rintro e w1 ⟨rfl,hb1⟩
  have B1:=hidP hb1
  clear hb1 HC
  go_wp2_with fail
  go_ret
  exact ⟨by rw [HRF.out];simp,B1.out⟩
end Go.Proofs.YtmmdlgjmplddiaaGreat
namespace Go.Proofs.YtmmdlgjmplddiaaGreat
open Go.RowKit Go.Maps
attribute [local go_sem ↓] Go.wp_at_zero Go.wp_at_succ
end Go.Proofs.YtmmdlgjmplddiaaGreat
namespace Go.Proofs.YtmmdlgjmplddiaaGreat
open Go.RowKit Go.Maps
attribute [local go_sem ↓] Go.wp_at_zero Go.wp_at_succ
end Go.Proofs.YtmmdlgjmplddiaaGreat
namespace Go.Proofs.YtmmdlgjmplddiaaGreat
open Go.RowKit Go.Maps
structure Kq (cb L M:Nat) (W W':World):Prop where
 os:W'.os=W.os
 tape:W'.tape=W.tape
 output:W'.output=W.output
 size:W.heap.size≤W'.heap.size
 block:∀ k,k<W.heap.size→k≠cb→(k<L∨((k<M∨∃ c t fr,W.heap[k]?=some (.cells c t fr))∧∀ c fr,W.heap[k]?≠some (.cells c 46 fr)))→W'.heap[k]?=W.heap[k]?
theorem Kq.refl (cb L M:Nat) (W:World):Kq cb L M W W:=⟨rfl,rfl,rfl,Nat.le_refl _,fun _ _ _ _=>rfl⟩
theorem Kq.trans {cb L M:Nat}{U V W:World} (h:Kq cb L M U V) (k:Kq cb L M V W):Kq cb L M U W:=
 ⟨k.os.trans h.os,k.tape.trans h.tape,k.output.trans h.output,Nat.le_trans h.size k.size,fun j hj h1 h2=>by
  have e:=h.block j hj h1 h2
  refine (k.block j (Nat.lt_of_lt_of_le hj h.size) h1 ?_).trans e
  rcases h2 with h2 | ⟨h2,h3⟩
  ·exact .inl h2
  ·refine .inr ⟨?_,fun c fr h4=>h3 c fr (e.symm.trans h4)⟩
   rcases h2 with h2 | ⟨c,t,fr,h2⟩
   ·exact .inl h2
   ·exact .inr ⟨c,t,fr,e.trans h2⟩⟩
theorem Kq.of_below {cb L M:Nat}{W W':World} (h:Below W.heap.size W W'):Kq cb L M W W':=⟨h.os,h.tape,h.output,h.size,fun j hj _ _=>h.block j hj⟩
theorem Kq.box {cb L M b:Nat}{W W':World}{c:Array Value}{t:TypeId}{fr:Nat × Nat} (h:Kq cb L M W W') (hb:W.heap[b]?=some (.cells c t fr)) (hne:b≠cb) (ht:t≠46):W'.heap[b]?=some (.cells c t fr):=
 (h.block b (zab hb) hne (.inr ⟨.inr ⟨c,t,fr,hb⟩,fun c' fr' e=>ht (by rw [hb] at e;injection e with e;injection e)⟩)).trans hb
theorem Kq.lko {cb L M E B:Nat}{w1 W W':World} (h:Lko E B w1 W) (k:Kq cb L M W W') (hL:w1.heap.size≤L) (h1:E≤cb) (h2:cb<B):Lko E B w1 W':=
 ⟨k.os.trans h.os,k.tape.trans h.tape,k.output.trans h.output,Nat.le_trans h.size k.size,fun g hg h3=>(k.block g (Nat.lt_of_lt_of_le hg h.size) (by omega) (.inl (by omega))).trans (h.block g hg h3)⟩
abbrev Tk3:=Option Addr × Option Addr × Option Addr
structure SK where
 wE:World
 w1:World
 B:Nat
 cb:Nat
 M:Nat
 l:Nat
 pb:Nat
 yb:Nat
 sb:Nat
 xb:Nat
 base:Nat
 gb:Nat
 mb:Nat
 ca:Option Addr
 cc:Nat
 m:Nat
 vv:Value
 va:Option Addr
 vc:Nat
 la:Option Addr
 lc:Nat
 L:List AlX
 bs:List Nat
 V:List Value
 Q:List (Value × F)
 X:List Cx
 U:List Vr
 fs:List F
 mem:∀ W,Lko wE.heap.size B w1 W→PD W base ca cc va vc X U (L.map Prod.fst) bs∧NF W base gb mb la lc L bs V (fun _=>Q)
 snd:Q.map Prod.snd=fs
 facs:∀ y∈Q,zcG wE y.1 y.2
 below:Below wE.heap.size wE w1
 hm:m≤X.length
 h1:wE.heap.size≤cb
 h2:cb<B
 h3:w1.heap.size≤M
 n1:pb≠cb
 n2:yb≠cb
 n3:sb≠cb
 n4:xb≠cb
 f40:fs.length≤40
 small:∀ c∈X,c.cp.tests.length≤6
 X6:X.length≤6
 h4:B≤w1.heap.size
structure SX (K:SK) (W:World):Prop where
 lk:Lko K.wE.heap.size K.B K.w1 W
 pl:W.heap[K.pb]?=some (.cells #[.slice K.ca K.m K.cc,K.vv] 71 (0,0))
 yl:W.heap[K.yb]?=some (.cells #[.func (.yield K.l) #[] #[]] 136 (0,0))
 sd:W.heap[K.sb]?=some (.cells #[.int .i64 (-1),.pointer none] 77 (0,0))
 sr:W.heap[K.xb]?=some (.cells #[.func (.func 55) #[] #[.pointer (some ⟨K.pb,0,none⟩),.pointer (some ⟨K.yb,0,none⟩),.pointer (some ⟨K.sb,0,none⟩),.pointer (some ⟨K.xb,0,none⟩)]] 137 (0,0))
theorem SX.bel {K:SK}{W W':World} (h:SX K W) (hb:Below W.heap.size W W'):SX K W':=
 ⟨h.lk.trans (Lko.of_below hb),(hb.block _ (zab h.pl)).trans h.pl,(hb.block _ (zab h.yl)).trans h.yl,(hb.block _ (zab h.sd)).trans h.sd,(hb.block _ (zab h.sr)).trans h.sr⟩
theorem SX.kq {K:SK}{W W':World} (h:SX K W) (hk:Kq K.cb K.w1.heap.size K.M W W'):SX K W':=
 ⟨hk.lko h.lk (Nat.le_refl _) K.h1 K.h2,hk.box h.pl K.n1 (by decide),hk.box h.yl K.n2 (by decide),hk.box h.sd K.n3 (by decide),hk.box h.sr K.n4 (by decide)⟩
theorem SX.entry {K:SK}{W:World} (h:SX K W):Below K.wE.heap.size K.wE W:=Lko.below K.below K.below.size h.lk
def tkv (x:Tk3):Value:=.agg #[.pointer x.1,.pointer x.2.1,.pointer x.2.2]
structure TokX (w:World) (p0 p1 p2:Option Addr) (T:List F):Prop where
 tok:zeS w (.pointer p0) (.pointer p1) (.pointer p2) T
 z0:T.length≤0→p0=none
 z1:T.length≤1→p1=none
 z2:T.length≤2→p2=none
 le:T.length≤3
def TkX (w:World):={y:Tk3 × List F // TokX w y.1.1 y.1.2.1 y.1.2.2 y.2}
def tkT {w:World} (x:TkX w):List F:=x.1.2
def SPost (K:SK) (J Jx:List (TkX K.wE)→World→Prop) (pre:List (TkX K.wE)) (Ts:List (List F)) (W:World) (e:Ending) (W':World):Prop:=
 (e=.returned (.bool true)∧∃ ys:List (TkX K.wE),ys.map tkT=Ts∧J (pre ++ ys) W'∧Kq K.cb K.w1.heap.size K.M W W')∨(e=.returned (.bool false)∧∃ q,Jx q W')
theorem SK.cond (K:SK) {k:Nat}{c:Cx} (hc:K.X[k]?=some c):∃ g fa fc,K.ca=some ⟨g,0,none⟩∧∀ W,Lko K.wE.heap.size K.B K.w1 W →
  (W.cell? ⟨g,k * 4,none⟩=some (.bool c.cp.neg)∧W.cell? ⟨g,k * 4+1,none⟩=some (.int .i64 (c.cp.at_:Int))∧W.cell? ⟨g,k * 4+2,none⟩=some (.pointer (some ⟨c.node,0,none⟩))∧W.cell? ⟨g,k * 4+3,none⟩=some (.slice c.ta c.cp.tests.length c.tc))∧zd2 W c.ta c.cp.tests∧W.cell? ⟨c.node,4,none⟩=some (.slice fa (cnOf K.fs c).facts.length fc)∧zhH W fa (cnOf K.fs c).facts ∧
  (∀ (j:Nat) (f:F),(cnOf K.fs c).facts[j]?=some f→∃ h,fa=some ⟨h,0,none⟩∧∃ fb fo,W.cell? ⟨h,j,none⟩=some (.pointer (some ⟨fb,fo,none⟩))∧zcG K.wE (.pointer (some ⟨fb,fo,none⟩)) f):=by
 obtain ⟨hP0,hN0⟩:=K.mem K.w1 (Lko.refl _ _ _)
 have hcm:=List.mem_of_getElem? hc
 obtain ⟨i,hA,hb⟩:=hP0.nodes c hcm
 rw [List.getElem?_map] at hA
 obtain ⟨x,hx,hxa⟩:=Option.map_eq_some_iff.1 hA
 have hml:i<K.L.length:=(List.getElem?_eq_some_iff.1 hx).1
 obtain ⟨v,hv⟩:∃ v,K.V[i]?=some v:=⟨K.V[i]'(by rw [hN0.lenv];exact hml),by simp⟩
 obtain ⟨_,_,⟨fa,fc,rfl⟩,_⟩:=hN0.node i x c.node v hx hb hv
 rw [hxa] at hv
 obtain ⟨g,hg,_,_,_⟩:=zam hP0.conds (za5 (cells:=zb3) (m:=4) (fun _=>rfl) K.X k c 0 _ hc rfl)
 have hsl:(sel c.cp.alpha K.Q).map Prod.snd=K.fs.filter (passes c.cp.alpha):=by rw [zi4,K.snd]
 have hlen:(sel c.cp.alpha K.Q).length=(K.fs.filter (passes c.cp.alpha)).length:=by rw [← hsl,List.length_map]
 refine ⟨g,fa,fc,hg,fun W hW=>?_⟩
 obtain ⟨hP,hN⟩:=K.mem W hW
 have key:=fun j u (hj:(zb3 c)[j]?=some u)=>zam hP.conds (za5 (cells:=zb3) (m:=4) (fun _=>rfl) K.X k c j u hc hj)
 rw [hg] at key
 obtain ⟨_,e0,_,c0,_⟩:=key 0 _ rfl
 obtain ⟨_,e1,_,c1,_⟩:=key 1 _ rfl
 obtain ⟨_,e2,_,c2,_⟩:=key 2 _ rfl
 obtain ⟨_,e3,_,c3,_⟩:=key 3 _ rfl
 cases e0
 cases e1
 cases e2
 cases e3
 obtain ⟨n1,_,_,n4⟩:=hN.node i x c.node _ hx hb hv
 rw [hxa] at n4
 obtain ⟨⟨_,_,_,y4⟩,_⟩:=n1.facts
 have each:∀ (j:Nat) (f:F),(cnOf K.fs c).facts[j]?=some f→∃ h,fa=some ⟨h,0,none⟩∧∃ fb fo,W.cell? ⟨h,j,none⟩=some (.pointer (some ⟨fb,fo,none⟩))∧zcG K.wE (.pointer (some ⟨fb,fo,none⟩)) f:=by
  intro j f hj
  have hj':((sel c.cp.alpha K.Q).map Prod.snd)[j]?=some f:=by rw [hsl];exact hj
  rw [List.getElem?_map] at hj'
  obtain ⟨y,hy,rfl⟩:=Option.map_eq_some_iff.1 hj'
  obtain ⟨h,rfl,_,hh,_⟩:=zam n4 (show ((sel c.cp.alpha K.Q).map Prod.fst)[j]?=some y.1 by rw [List.getElem?_map,hy];rfl)
  have hF:=K.facs y (List.mem_filter.1 (List.mem_of_getElem? hy)).1
  obtain ⟨fb,fo,he,rest⟩:=hF
  exact ⟨h,rfl,fb,fo,by rw [← he];exact hh,fb,fo,rfl,rest⟩
 refine ⟨⟨by simpa using c0,by simpa using c1,by simpa using c2,by simpa using c3⟩,zd2.owns (hP.tests c hcm),?_,?_,each⟩
 ·show W.cell? ⟨c.node,4,none⟩=some (.slice fa (K.fs.filter (passes c.cp.alpha)).length fc)
  rw [← hlen]
  exact y4
 ·intro j f hj
  obtain ⟨h,e,fb,fo,h1,h2⟩:=each j f hj
  exact ⟨h,0,_,e,by simpa using h1,h2.below (Lko.below K.below K.below.size hW)⟩
theorem zm0 (i:Nat) (x p0 p1 p2:Option Addr):setP i (.pointer x) (.pointer p0) (.pointer p1) (.pointer p2)=#[.pointer (if i=0 then x else p0),.pointer (if i=1 then x else p1),.pointer (if i=2 then x else p2)]:=by
 unfold setP
 congr 1
 simp only [List.cons.injEq,and_true]
 refine ⟨?_,?_,?_⟩ <;> split <;> rfl
theorem zeS.put {w:World}{p0 p1 p2 y:Option Addr}{T:List F}{f:F} (h:zeS w (.pointer p0) (.pointer p1) (.pointer p2) T) (hk:T.length<3) (hy:zcG w (.pointer y) f):zeS w (.pointer (if T.length=0 then y else p0)) (.pointer (if T.length=1 then y else p1)) (.pointer (if T.length=2 then y else p2)) (T ++ [f]):=by
 intro i g hi
 by_cases hil:i<T.length
 ·rw [List.getElem?_append_left hil] at hi
  obtain ⟨pv,h1,h2⟩:=h i g hi
  refine ⟨pv,?_,h2⟩
  rcases i with _ | _ | _ | i
  ·rw [if_neg (by omega)]
   simpa using h1
  ·rw [if_neg (show ¬ T.length=1 by omega)]
   simpa using h1
  ·omega
  ·omega
 ·have e:i=T.length:=by
   have:=(List.getElem?_eq_some_iff.1 hi).1
   simp at this
   omega
  subst e
  simp at hi
  subst hi
  refine ⟨.pointer y,?_,hy⟩
  rcases (show T.length=0∨T.length=1∨T.length=2 by omega) with h | h | h <;> rw [h] <;> simp
theorem TokX.put {w:World}{p0 p1 p2 y:Option Addr}{T:List F}{f:F} (h:TokX w p0 p1 p2 T) (hk:T.length<3) (hy:zcG w (.pointer y) f):TokX w (if T.length=0 then y else p0) (if T.length=1 then y else p1) (if T.length=2 then y else p2) (T ++ [f]):=by
 have hl:(T ++ [f]).length=T.length+1:=by simp
 refine ⟨h.tok.put hk hy,fun e=>?_,fun e=>?_,fun e=>?_,?_⟩
 ·omega
 ·rw [if_neg (by omega)]
  exact h.z1 (by omega)
 ·rw [if_neg (by omega)]
  exact h.z2 (by omega)
 ·omega
theorem zaR (p0 p1 p2 x:Option Addr) (T:List F) (f:F) (wE w:World) (hT:TokX wE p0 p1 p2 T) (hk:T.length<3) (hx:zcG wE (.pointer x) f) :
  Calls Tryz.prog 60 #[.agg #[.pointer p0,.pointer p1,.pointer p2],.int .i64 (T.length:Int),.pointer x] w fun e w'=>∃ q0 q1 q2,e=.returned (.agg #[.pointer q0,.pointer q1,.pointer q2])∧Hid (TokX wE q0 q1 q2 (T ++ [f]))∧Below w.heap.size w w':=by
 refine (ziK p0 p1 p2 x T.length w hk).mono ?_
 rintro e w' ⟨rfl,hb⟩
 exact ⟨_,_,_,by rw [zm0],hT.put hk hx,hb⟩
theorem SPost.one {K:SK}{J Jx:List (TkX K.wE)→World→Prop}{pre:List (TkX K.wE)}{Ts:List (List F)}{W:World}{e:Ending}{W':World} (h:SPost K J Jx pre Ts W e W'):∃ b:Bool,e=.returned (.bool b)∧Hid (b=true→∃ ys:List (TkX K.wE),ys.map tkT=Ts∧J (pre ++ ys) W'∧Kq K.cb K.w1.heap.size K.M W W')∧Hid (b=false→∃ q,Jx q W'):=by
 rcases h with ⟨rfl,h⟩ | ⟨rfl,h⟩
 ·exact ⟨true,rfl,hidP (fun _=>h),hidP (fun hb=>(by cases hb))⟩
 ·exact ⟨false,rfl,hidP (fun hb=>(by cases hb)),hidP (fun _=>h)⟩
end Go.Proofs.YtmmdlgjmplddiaaGreat
namespace Go.Proofs.YtmmdlgjmplddiaaGreat
open Go.RowKit Go.Maps
attribute [local go_sem ↓] Go.wp_at_zero Go.wp_at_succ
theorem cell1P {w:World}{b:Nat}{ty:TypeId}{x0:Value} (h:w.heap[b]?=some (.cells #[x0] ty (0,0))):w.cell? ⟨b,0,none⟩=some x0:=by simp [World.cell?,h]
set_option maxRecDepth 100000 in
set_option maxHeartbeats 12800000 in
theorem zkJ (Z:SK) (J Jx:List (TkX Z.wE)→World→Prop) (N:Nat) (hJ:∀ s W W',J s W→Below W.heap.size W W'→J s W')
  (hY:∀ (mm:Nat) (pre:List (TkX Z.wE)) (x:TkX Z.wE) (W1:World),J pre W1→pre.length<N→YieldAt Fence.wide mm Tryz.prog Z.l #[tkv x.1.1] W1 fun e W'=>(e=.returned (.bool true)∧J (pre ++ [x]) W'∧Kq Z.cb Z.w1.heap.size Z.M W1 W')∨(e=.returned (.bool false)∧Jx (pre ++ [x]) W'))
  (T:List F) (p0 p1 p2:Option Addr) (hTK:TokX Z.wE p0 p1 p2 T) (pre:List (TkX Z.wE)) (W:World) (hSX:SX Z W) (hJ0:J pre W) (hN:pre.length<N) :
   Calls Tryz.prog 55 #[.int .i64 (Z.m:Int),.agg #[.pointer p0,.pointer p1,.pointer p2],.pointer (some ⟨Z.pb,0,none⟩),.pointer (some ⟨Z.yb,0,none⟩),.pointer (some ⟨Z.sb,0,none⟩),.pointer (some ⟨Z.xb,0,none⟩)] W (SPost Z J Jx pre [T] W):=by
 go_enter Tryz.func55,Tryz.ntmps55
 go_upto_region 1 with fail
 refine zaj ?_
 intro w0 hW0 hq0
 obtain ⟨t0,t1,t2⟩:=cells3P hq0
 have SX0:=hidP (hSX.bel hW0)
 obtain ⟨g0,_⟩:=cells2P SX0.out.pl
 have y0:=cell1P SX0.out.yl
 have J0:=hJ _ _ _ hJ0 hW0
 have K0:=hidP (Kq.of_below (cb:=Z.cb) (L:=Z.w1.heap.size) (M:=Z.M) hW0)
 obtain ⟨fn,tm,asg,bdy,hy,hR⟩:=hY 5 pre ⟨((p0,p1,p2),T),hTK⟩ w0 J0 hN
 have HR:=hidP hR
 have hy':(Instr.yield Z.l #[.agg #[.pointer p0,.pointer p1,.pointer p2]]).run Tryz.prog w0=.ok (.round Z.l fn tm asg bdy) w0:=hy
 clear hW0 hq0 hy hR
 go_upto_region 2 with fail
 refine (wpIn_wide (n:=6)).1 ?_
 gi_wp2
 refine HR.out.mono ?_
 rintro e W' (⟨rfl,hJ',hk⟩ | ⟨rfl,hx⟩)
 ·gi_wp2
  go_wp2_with fail
  go_ret
  exact .inl ⟨rfl,[⟨((p0,p1,p2),T),hTK⟩],rfl,hJ',K0.out.trans hk⟩
 ·gi_wp2
  go_wp2_with fail
  go_ret
  exact .inr ⟨rfl,_,hx⟩
set_option maxRecDepth 100000 in
set_option maxHeartbeats 12800000 in
theorem zkB (Z:SK) (J Jx:List (TkX Z.wE)→World→Prop) (hJ:∀ s W W',J s W→Below W.heap.size W W'→J s W') (c:Cx) (k:Nat) (hc:Z.X[k]?=some c) (hkm:k<Z.m) (T:List F) (p0 p1 p2:Option Addr) (pre:List (TkX Z.wE)) (W:World) (hSX:SX Z W) (hTK:TokX Z.wE p0 p1 p2 T) (hfit:∀ f∈(cnOf Z.fs c).facts,∀ t∈c.cp.tests,t.fits T f) (hJ0:J pre W) (hneg:c.cp.neg=true) (n r:List (List F)) (hr1:(cnOf Z.fs c).facts.any (fun f=>c.cp.tests.all (zaK T f))=true→r=[]) (hr0:(cnOf Z.fs c).facts.any (fun f=>c.cp.tests.all (zaK T f))=false→r=n)
  (HIH:(cnOf Z.fs c).facts.any (fun f=>c.cp.tests.all (zaK T f))=false→∀ W',SX Z W'→J pre W'→Calls Tryz.prog 55 #[.int .i64 ((k:Int)+1),.agg #[.pointer p0,.pointer p1,.pointer p2],.pointer (some ⟨Z.pb,0,none⟩),.pointer (some ⟨Z.yb,0,none⟩),.pointer (some ⟨Z.sb,0,none⟩),.pointer (some ⟨Z.xb,0,none⟩)] W' (SPost Z J Jx pre n W')) :
   Calls Tryz.prog 55 #[.int .i64 (k:Int),.agg #[.pointer p0,.pointer p1,.pointer p2],.pointer (some ⟨Z.pb,0,none⟩),.pointer (some ⟨Z.yb,0,none⟩),.pointer (some ⟨Z.sb,0,none⟩),.pointer (some ⟨Z.xb,0,none⟩)] W (SPost Z J Jx pre r W):=by
 obtain ⟨g,fa,fc,hca,hmem⟩:=Z.cond hc
 have hts:=Z.small c (List.mem_of_getElem? hc)
 have hfl:(cnOf Z.fs c).facts.length≤1048576:=Nat.le_trans (List.length_filter_le _ _) (by have:=Z.f40;omega)
 have HM:=hidP hmem
 have HTK:=hidP hTK
 have HF:=hidP hfit
 have HI:=hidP HIH
 have HR1:=hidP hr1
 have HR0:=hidP hr0
 clear hmem hTK hfit HIH hr1 hr0
 have hkn:((k:Int)==(Z.m:Int))=false:=by simp;omega
 have z0:(0:Int)≤(k:Int):=by omega
 have z1:(k:Int)<(Z.m:Int):=by omega
 have hk40:(k:Int)<1000000:=by have:=Z.hm;have:=(List.getElem?_eq_some_iff.1 hc).1;have:=Z.X6;omega
 go_enter Tryz.func55,Tryz.ntmps55
 go_upto_region 1 with fail
 refine zaj ?_
 intro w0 hW0 hq0
 obtain ⟨t0,t1,t2⟩:=cells3P hq0
 have SX0:=hidP (hSX.bel hW0)
 obtain ⟨g0,_⟩:=cells2P SX0.out.pl
 rw [hca] at g0
 obtain ⟨⟨c0,c1,c2,c3⟩,_⟩:=HM.out w0 SX0.out.lk
 have J0:=hidP (hJ _ _ _ hJ0 hW0)
 have B0:=hidP hW0
 rw [hneg] at c0
 clear hW0 hq0
 go_upto_region 4 with fail
 refine zaj ?_
 intro w2 hW2 hq2
 obtain ⟨d0,d1,d2,d3⟩:=cells4P hq2
 have u0:=zaa hW2 t0
 have u1:=zaa hW2 t1
 have u2:=zaa hW2 t2
 have SX2:=hidP (SX0.out.bel hW2)
 have J2:=hidP (hJ _ _ _ J0.out hW2)
 have B2:=hidP (B0.out.trans (hW2.mono B0.out.size))
 obtain ⟨s0,s1⟩:=cells2P SX2.out.sd
 clear hW2 hq2 t0 t1 t2 c0 c1 c2 c3 g0 SX0 J0 B0
 go_wp2_with fail
 refine (zku k _ _ _ _ _ _ _ w2).mono ?_
 rintro e w3 ⟨rfl,hb3⟩
 have f0:=zaa hb3 d0
 have f1:=zaa hb3 d1
 have f2:=zaa hb3 d2
 have f3:=zaa hb3 d3
 have v0:=zaa hb3 u0
 have v1:=zaa hb3 u1
 have v2:=zaa hb3 u2
 have SX3:=hidP (SX2.out.bel hb3)
 have J3:=hidP (hJ _ _ _ J2.out hb3)
 have B3:=hidP (B2.out.trans (hb3.mono B2.out.size))
 clear hb3 d0 d1 d2 d3 u0 u1 u2 s0 s1 SX2 J2 B2
 obtain ⟨_,m1,m2,m3,_⟩:=HM.out w3 SX3.out.lk
 have HB:=hidP (zkr (.bool true) (.int .i64 (c.cp.at_:Int)) (.pointer p0) (.pointer p1) (.pointer p2) c.node c.cp.tests c.ta c.tc T (cnOf Z.fs c).facts fa fc w3 m2 m1 (HTK.out.tok.below SX3.out.entry) m3 (Nat.le_trans hts (by decide)) hfl HF.out)
 clear m1 m2 m3
 cases hm:(cnOf Z.fs c).facts.any (fun f=>c.cp.tests.all (zaK T f))
 ·rw [hm] at HB
  replace HI:=hidP (HI.out hm)
  replace HR0:=hidP (HR0.out hm)
  clear hm
  go_wp2_with fail
  refine HB.out.mono ?_
  rintro e w4 ⟨rfl,hb4⟩
  have v0':=zaa hb4 v0
  have v1':=zaa hb4 v1
  have v2':=zaa hb4 v2
  have SX4:=hidP (SX3.out.bel hb4)
  have J4:=hidP (hJ _ _ _ J3.out hb4)
  have B4:=hidP (B3.out.trans (hb4.mono B3.out.size))
  have x0:=cell1P SX4.out.sr
  clear hb4 f0 f1 f2 f3 v0 v1 v2 SX3 J3 B3 HB
  go_wp2_with fail
  refine (HI.out w4 SX4.out J4.out).mono ?_
  rintro e w5 (⟨rfl,ys,hl,hj,hk⟩ | ⟨rfl,q,hq⟩)
  ·go_wp2_with fail
   go_ret
   exact .inl ⟨rfl,ys,hl.trans HR0.out.symm,hj,(Kq.of_below B4.out).trans hk⟩
  ·go_wp2_with fail
   go_ret
   exact .inr ⟨rfl,q,hq⟩
 ·rw [hm] at HB
  replace HR1:=hidP (HR1.out hm)
  clear hm
  go_wp2_with fail
  refine HB.out.mono ?_
  rintro e w4 ⟨rfl,hb4⟩
  have J4:=hidP (hJ _ _ _ J3.out hb4)
  have B4:=hidP (B3.out.trans (hb4.mono B3.out.size))
  clear hb4
  go_wp2_with fail
  go_ret
  exact .inl ⟨rfl,[],HR1.out.symm,by simpa using J4.out,Kq.of_below B4.out⟩
end Go.Proofs.YtmmdlgjmplddiaaGreat
namespace Go.Proofs.YtmmdlgjmplddiaaGreat
open Go.RowKit Go.Maps
attribute [local go_sem ↓] Go.wp_at_zero Go.wp_at_succ
theorem zpF {k:Int} (h0:0≤k) (h1:k<1000000):IntKind.i64.wrap (k+1)=k+1:=by
 rw [IntKind.wrap_i64]
 omega
theorem zk3 {α β:Type} (g:α→List β) {l:List α}{j:Nat}{x:α} (h:l[j]?=some x):(l.take (j+1)).flatMap g=(l.take j).flatMap g ++ g x:=by
 rw [List.take_add_one,h]
 simp
theorem zh6 {α β:Type} (g:α→List β) (l:List α) (j:Nat):((l.take j).flatMap g).length≤(l.flatMap g).length:=by
 have h:l.flatMap g=(l.take j).flatMap g ++ (l.drop j).flatMap g:=by
  rw [← List.flatMap_append,List.take_append_drop]
 rw [h,List.length_append]
 omega
set_option maxRecDepth 100000 in
set_option maxHeartbeats 12800000 in
theorem zko (Z:SK) (J Jx:List (TkX Z.wE)→World→Prop) (hJ:∀ s W W',J s W→Below W.heap.size W W'→J s W') (c:Cx) (k:Nat) (hc:Z.X[k]?=some c) (hkm:k<Z.m) (T:List F) (p0 p1 p2:Option Addr) (pre:List (TkX Z.wE)) (W:World) (hSX:SX Z W) (hTK:TokX Z.wE p0 p1 p2 T) (hfit:∀ f∈(cnOf Z.fs c).facts,∀ t∈c.cp.tests,t.fits T f) (hJ0:J pre W) (hneg:c.cp.neg=false) (hat:c.cp.at_=T.length) (hT3:T.length<3) (N:Nat) (r:List (List F)) (gN:F→List (List F)) (hr:r=(cnOf Z.fs c).facts.flatMap gN) (hN:pre.length+r.length≤N)
  (hz:∀ f∈(cnOf Z.fs c).facts,c.cp.tests.all (zaK T f)=false→gN f=[])
  (HIH:∀ f∈(cnOf Z.fs c).facts,c.cp.tests.all (zaK T f)=true→∀ (pre':List (TkX Z.wE)) (W':World) (q0 q1 q2:Option Addr),SX Z W'→J pre' W'→pre'.length+(gN f).length≤N→TokX Z.wE q0 q1 q2 (T ++ [f])→Calls Tryz.prog 55 #[.int .i64 ((k:Int)+1),.agg #[.pointer q0,.pointer q1,.pointer q2],.pointer (some ⟨Z.pb,0,none⟩),.pointer (some ⟨Z.yb,0,none⟩),.pointer (some ⟨Z.sb,0,none⟩),.pointer (some ⟨Z.xb,0,none⟩)] W' (SPost Z J Jx pre' (gN f) W')) :
   Calls Tryz.prog 55 #[.int .i64 (k:Int),.agg #[.pointer p0,.pointer p1,.pointer p2],.pointer (some ⟨Z.pb,0,none⟩),.pointer (some ⟨Z.yb,0,none⟩),.pointer (some ⟨Z.sb,0,none⟩),.pointer (some ⟨Z.xb,0,none⟩)] W (SPost Z J Jx pre r W):=by
 obtain ⟨g,fa,fc,hca,hmem⟩:=Z.cond hc
 have hts:=Z.small c (List.mem_of_getElem? hc)
 have hfl:(cnOf Z.fs c).facts.length≤40:=Nat.le_trans (List.length_filter_le _ _) Z.f40
 have HM:=hidP hmem
 have HTK:=hidP hTK
 have HF:=hidP hfit
 have HI:=hidP HIH
 have HZ:=hidP hz
 have HRR:=hidP hr
 have HNN:=hidP hN
 have HJJ:=hidP hJ
 clear hmem hTK hfit HIH hz hr hN
 obtain ⟨fs,hfs⟩:∃ l,l=(cnOf Z.fs c).facts:=⟨_,rfl⟩
 rw [← hfs] at HM HF HI HZ HRR hfl
 clear hfs
 have hkn:((k:Int)==(Z.m:Int))=false:=by simp;omega
 have z0:(0:Int)≤(k:Int):=by omega
 have z1:(k:Int)<(Z.m:Int):=by omega
 have hk40:(k:Int)<1000000:=by have:=Z.hm;have:=(List.getElem?_eq_some_iff.1 hc).1;have:=Z.X6;omega
 go_enter Tryz.func55,Tryz.ntmps55
 go_upto_region 1 with fail
 refine zaj ?_
 intro w0 hW0 hq0
 obtain ⟨tb,htb⟩:∃ b,b=W.heap.size:=⟨_,rfl⟩
 rw [← htb] at hq0 ⊢
 have hcb:Z.cb<tb:=by
  have h1:=hSX.lk.size
  have h2:=Z.h2
  have h3:=Z.h4
  omega
 obtain ⟨t0,t1,t2⟩:=cells3P hq0
 have TB0:=hidP hq0
 have SX0:=hidP (hSX.bel hW0)
 obtain ⟨g0,_⟩:=cells2P SX0.out.pl
 rw [hca] at g0
 obtain ⟨⟨c0,c1,c2,c3⟩,_⟩:=HM.out w0 SX0.out.lk
 have J0:=hidP (hJ _ _ _ hJ0 hW0)
 have B0:=hidP hW0
 rw [hneg] at c0
 rw [hat] at c1
 have htl:tb<w0.heap.size:=zab hq0
 clear hW0 hq0 htb
 go_upto_region 4 with fail
 refine zaj ?_
 intro w2 hW2 hq2
 obtain ⟨db,hdb⟩:∃ b,b=w0.heap.size:=⟨_,rfl⟩
 rw [← hdb] at hq2 ⊢
 have hcd:Z.cb<db:=by omega
 obtain ⟨d0,d1,d2,d3⟩:=cells4P hq2
 have DB2:=hidP hq2
 have TB2:=hidP ((hW2.block _ (zab TB0.out)).trans TB0.out)
 have SX2:=hidP (SX0.out.bel hW2)
 have J2:=hidP (hJ _ _ _ J0.out hW2)
 have B2:=hidP (B0.out.trans (hW2.mono B0.out.size))
 obtain ⟨s0,s1⟩:=cells2P SX2.out.sd
 obtain ⟨_,_,m2,_,_⟩:=HM.out w2 SX2.out.lk
 clear hW2 hq2 hdb t0 t1 t2 c0 c1 c2 c3 g0 SX0 J0 B0 TB0
 go_wp2_with fail
 refine (zkL k c.node _ _ _ fa fs.length fc w2 m2).mono ?_
 rintro e w3 ⟨rfl,hb3⟩
 have DB3:=hidP ((hb3.block _ (zab DB2.out)).trans DB2.out)
 have TB3:=hidP ((hb3.block _ (zab TB2.out)).trans TB2.out)
 have SX3:=hidP (SX2.out.bel hb3)
 have J3:=hidP (hJ _ _ _ J2.out hb3)
 have B3:=hidP (B2.out.trans (hb3.mono B2.out.size))
 clear hb3 m2 d0 d1 d2 d3 s0 s1 SX2 J2 B2 DB2 TB2
 go_wp2_with fail
 go_loopw [49] (fun iv wr=>∃ (j:Nat) (ys:List (TkX Z.wE)),iv=.int .i64 (j:Int)∧j≤fs.length∧ys.map tkT=(fs.take j).flatMap gN∧J (pre ++ ys) wr∧Kq Z.cb Z.w1.heap.size Z.M w3 wr) (fun iv _=>fs.length - (intOf iv).toNat)
 case atStart=>exact ⟨0,[],rfl,Nat.zero_le _,rfl,by simpa using J3.out,Kq.refl _ _ _ _⟩
 case round=>
  obtain ⟨j,ys,rfl,hjl,hys,hJr,hKr⟩:=hrel
  have HYS:=hidP hys
  have JR:=hidP hJr
  have KR:=hidP hKr
  have SXR:=hidP (SX3.out.kq hKr)
  have DBR:=hidP (hKr.box DB3.out (by omega) (by decide))
  have TBR:=hidP (hKr.box TB3.out (by omega) (by decide))
  clear hys hJr hKr J3
  by_cases hj:j<fs.length
  ·obtain ⟨f,hf⟩:∃ f,fs[j]?=some f:=⟨fs[j],by simp [hj]⟩
   have hfm:=List.mem_of_getElem? hf
   obtain ⟨_,m1,m2,m3,m4⟩:=HM.out wr SXR.out.lk
   obtain ⟨hb,rfl,fb,fo,hcell,hfac⟩:=m4 j f hf
   have HFC:=hidP hfac
   obtain ⟨d0,d1,d2,d3⟩:=cells4P DBR.out
   obtain ⟨u0,u1,u2⟩:=cells3P TBR.out
   have x0:=cell1P SXR.out.sr
   have y0:(0:Int)≤(j:Int):=by omega
   have y1:(j:Int)<(fs.length:Int):=by omega
   have HST:=hidP (zk3 gN hf)
   have HAG:=hidP (fun w' (h:Below wr.heap.size wr w')=>zgI (.bool false) (.int .i64 (T.length:Int)) (.pointer (some ⟨c.node,0,none⟩)) (.pointer p0) (.pointer p1) (.pointer p2) (.pointer (some ⟨fb,fo,none⟩)) c.cp.tests c.ta c.tc T f w' (m1.below h) ((HTK.out.tok.below SXR.out.entry).below h) ((HFC.out.below SXR.out.entry).below h) (Nat.le_trans hts (by decide)) (HF.out f hfm))
   clear m1 m2 m3 m4 hfac
   cases hm:c.cp.tests.all (zaK T f)
   ·have HG0:=hidP (HZ.out f hfm hm)
    rw [hm] at HAG
    clear hm hf
    go_wp2_with fail
    refine wp_region_noPanic ?_
    refine wp_region_held_drew (S:=(fun w'=>w'.cell? ⟨db,0,none⟩=some (.bool false)∧w'.cell? ⟨db,1,none⟩=some (.int .i64 (T.length:Int))∧w'.cell? ⟨db,2,none⟩=some (.pointer (some ⟨c.node,0,none⟩))∧w'.cell? ⟨db,3,none⟩=some (.slice c.ta c.cp.tests.length c.tc)∧w'.cell? ⟨tb,0,none⟩=some (.pointer p0)∧w'.cell? ⟨tb,1,none⟩=some (.pointer p1)∧w'.cell? ⟨tb,2,none⟩=some (.pointer p2))) (by kernel_rfl) ?_ (fun hHeld=>?_)
    ·(try dsimp only)
     exact ⟨d0,d1,d2,d3,u0,u1,u2⟩
    refine tk 0 hHeld ?_
    (try simp only [pA,pZ,pS])
    refine tk 1 hHeld ?_
    (try simp only [pA,pZ,pS])
    refine tk 2 hHeld ?_
    (try simp only [pA,pZ,pS])
    refine wpAnyH_ready (rs:=[3]) (by kernel_rfl) (by simp) ?_
    refine AllReadyH.cons (List.getElem?_toArray.trans rfl) (fun K hK=>?_) AllReadyH.nil
    go_simp
    (go_at_call 59;refine (HAG.out _ (Below.refl _ _).drew).mono ?_;rintro e' w6 ⟨rfl,hb6⟩)
    (try go_wp2_with fail)
    refine hK.out _ _ ?hS2 (fun hHeld=>?_)
    case hS2=>((try dsimp only);exact ⟨zaa hb6 d0,zaa hb6 d1,zaa hb6 d2,zaa hb6 d3,zaa hb6 u0,zaa hb6 u1,zaa hb6 u2⟩)
    clear hK K
    (first | simp only [pA,pZ,pS] | simp only [pN] | skip)
    have B6:=hidP (show Below wr.heap.size wr w6 from (Below.refl _ _).drew.trans (hb6.mono (by simp)))
    clear hb6
    refine tk 4 hHeld ?_
    refine tn 5 hHeld ?_
    refine tn 6 hHeld ?_
    refine tn 7 hHeld ?_
    (try simp only [pA,pZ,pS])
    refine tn 8 hHeld ?_
    refine tn 9 hHeld ?_
    refine tn 10 hHeld ?_
    refine tn 11 hHeld ?_
    (try simp only [pA,pZ,pS])
    refine tn 12 hHeld ?_
    refine tn 13 hHeld ?_
    refine tn 14 hHeld ?_
    (try simp only [pA,pZ,pS])
    refine tk 15 hHeld ?_
    (try simp only [pA,pZ,pS])
    refine wpAnyH_done (by kernel_rfl) ?_ _
    refine NoPanic.normal ?_
    go_wp2_with fail
    go_roundw
    case rel=>exact ⟨j+1,ys,by go_num,by omega,by rw [HST.out,HG0.out,List.append_nil];exact HYS.out,hJ _ _ _ JR.out B6.out,KR.out.trans (Kq.of_below B6.out)⟩
    case measure=>(simp [intOf];omega)
   ·have HG1:=hidP (HI.out f hfm hm)
    rw [hm] at HAG
    have HLE:=hidP (show (pre ++ ys).length+(gN f).length≤N by have h1:=zh6 gN fs (j+1);rw [HST.out,List.length_append] at h1;have h2:=congrArg List.length HYS.out;rw [List.length_map] at h2;have h3:=congrArg List.length HRR.out;have h4:=HNN.out;rw [List.length_append];omega)
    have hwrap:IntKind.i64.wrap ((k:Int)+1)=(k:Int)+1:=zpF z0 hk40
    clear hm hf
    go_wp2_with fail
    refine wp_region_noPanic ?_
    refine wp_region_held_drew (S:=(fun _=>True)) (by kernel_rfl) ?_ (fun hHeld=>?_)
    ·(try dsimp only)
     all_goals trivial
    refine tk 2 hHeld ?_
    (try simp only [pA,pZ,pS])
    refine wpAnyH_ready (rs:=[0,1]) (by kernel_rfl) (by simp) (AllReadyH.cons (List.getElem?_toArray.trans rfl) (fun K hK=>?_) (AllReadyH.cons (List.getElem?_toArray.trans rfl) (fun K hK=>?_) AllReadyH.nil))
    ·go_simp
     refine hK.out _ _ trivial (fun hHeld=>?_)
     clear hK K
     (first | simp only [pA,pZ,pS] | simp only [pN] | skip)
     refine wpAnyH_ready (rs:=[1]) (by kernel_rfl) (by simp) (AllReadyH.cons (List.getElem?_toArray.trans rfl) (fun K hK=>?_) AllReadyH.nil)
     go_simp
     refine hK.out _ _ trivial (fun hHeld=>?_)
     clear hK K
     (first | simp only [pA,pZ,pS] | simp only [pN] | skip)
     refine wpAnyH_ready (rs:=[3]) (by kernel_rfl) (by simp) (AllReadyH.cons (List.getElem?_toArray.trans rfl) (fun K hK=>?_) AllReadyH.nil)
     go_simp
     (go_at_call 59;refine (HAG.out _ (Below.refl _ _).drew).mono ?_;rintro e' w6 ⟨rfl,hb6⟩)
     (try go_wp2_with fail)
     refine hK.out _ _ trivial (fun hHeld=>?_)
     clear hK K
     (first | simp only [pA,pZ,pS] | simp only [pN] | skip)
     have e0:=zaa hb6 d0
     have e1:=zaa hb6 d1
     have e2:=zaa hb6 d2
     have e3:=zaa hb6 d3
     have v0:=zaa hb6 u0
     have v1:=zaa hb6 u1
     have v2:=zaa hb6 u2
     have e8:=zaa hb6 x0
     have B6:=hidP (show Below wr.heap.size wr w6 from (Below.refl _ _).drew.trans (hb6.mono (by simp)))
     clear hb6
     refine tk 4 hHeld ?_
     (try simp only [pA,pZ,pS])
     refine tk 6 hHeld ?_
     (try simp only [pA,pZ,pS])
     refine tk 7 hHeld ?_
     (try simp only [pA,pZ,pS])
     refine tk 9 hHeld ?_
     (try simp only [pA,pZ,pS])
     refine tk 11 hHeld ?_
     (try simp only [pA,pZ,pS])
     refine wpAnyH_ready (rs:=[5,8,10]) (by kernel_rfl) (by simp) (AllReadyH.cons (List.getElem?_toArray.trans rfl) (fun K hK=>?_) (AllReadyH.cons (List.getElem?_toArray.trans rfl) (fun K hK=>?_) (AllReadyH.cons (List.getElem?_toArray.trans rfl) (fun K hK=>?_) AllReadyH.nil)))
     ·go_simp
      refine hK.out _ _ trivial (fun hHeld=>?_)
      clear hK K
      (first | simp only [pA,pZ,pS] | simp only [pN] | skip)
      refine wpAnyH_ready (rs:=[8,10]) (by kernel_rfl) (by simp) (AllReadyH.cons (List.getElem?_toArray.trans rfl) (fun K hK=>?_) (AllReadyH.cons (List.getElem?_toArray.trans rfl) (fun K hK=>?_) AllReadyH.nil))
      ·go_simp
       refine hK.out _ _ trivial (fun hHeld=>?_)
       clear hK K
       (first | simp only [pA,pZ,pS] | simp only [pN] | skip)
       refine wpAnyH_ready (rs:=[10]) (by kernel_rfl) (by simp) (AllReadyH.cons (List.getElem?_toArray.trans rfl) (fun K hK=>?_) AllReadyH.nil)
       go_simp
       refine hK.out _ _ trivial (fun hHeld=>?_)
       clear hK K
       (first | simp only [pA,pZ,pS] | simp only [pN] | skip)
       refine wpAnyH_ready (rs:=[12]) (by kernel_rfl) (by simp) (AllReadyH.cons (List.getElem?_toArray.trans rfl) (fun K hK=>?_) AllReadyH.nil)
       go_simp
       (go_at_call 60;refine (zaR p0 p1 p2 (some ⟨fb,fo,none⟩) T f Z.wE w6 HTK.out hT3 HFC.out).mono ?_;rintro e' w7 ⟨q0,q1,q2,rfl,HTQ,hb7⟩)
       (try go_wp2_with fail)
       refine hK.out _ _ trivial (fun hHeld=>?_)
       clear hK K
       (first | simp only [pA,pZ,pS] | simp only [pN] | skip)
       have B7:=hidP (B6.out.trans (hb7.mono B6.out.size))
       have e9:=zaa hb7 e8
       clear hb7
       refine wpAnyH_ready (rs:=[13]) (by kernel_rfl) (by simp) (AllReadyH.cons (List.getElem?_toArray.trans rfl) (fun K hK=>?_) AllReadyH.nil)
       go_simp
       (go_at_call 55;(try rw [hwrap]);refine (HG1.out (pre ++ ys) w7 q0 q1 q2 (SXR.out.bel B7.out) (HJJ.out _ _ _ JR.out B7.out) HLE.out HTQ.out).mono ?_;intro e' w8 hpo;obtain ⟨b,rfl,HB1,HB0⟩:=hpo.one;clear hpo)
       (try go_wp2_with fail)
       refine hK.out _ _ trivial (fun hHeld=>?_)
       clear hK K
       (first | simp only [pA,pZ,pS] | simp only [pN] | skip)
       refine tk 14 hHeld ?_
       (try simp only [pA,pZ,pS])
       refine tk 15 hHeld ?_
       (try simp only [pA,pZ,pS])
       refine wpAnyH_done (by kernel_rfl) ?_ _
       refine NoPanic.normal ?_
       clear hwrap HG1 HLE HAG HTQ hHeld e0 e1 e2 e3 v0 v1 v2 e8 e9 d0 d1 d2 d3 u0 u1 u2 x0 hcell hJ
       cases b
       ·have HBX:=hidP (HB0.out rfl)
        clear HB0 HB1
        simp only [Bool.not_false]
        go_wp2_with fail
        go_ret
        exact .inr ⟨rfl,HBX.out⟩
       ·obtain ⟨ys2,hl2,hj2,hk2⟩:=HB1.out rfl
        have HJ2:=hidP hj2
        have HL2:=hidP hl2
        have HK2:=hidP hk2
        clear hj2 hl2 hk2 HB1 HB0
        simp only [Bool.not_true]
        go_wp2_with fail
        go_roundw
        case rel=>exact ⟨j+1,ys ++ ys2,by go_num,by omega,by rw [HST.out,List.map_append,HYS.out,HL2.out],by rw [← List.append_assoc];exact HJ2.out,KR.out.trans ((Kq.of_below B7.out).trans HK2.out)⟩
        case measure=>(simp [intOf];omega)
      ·go_simp
       refine hK.out _ _ trivial (fun hHeld=>?_)
       clear hK K
       (first | simp only [pA,pZ,pS] | simp only [pN] | skip)
       refine wpAnyH_ready (rs:=[8]) (by kernel_rfl) (by simp) (AllReadyH.cons (List.getElem?_toArray.trans rfl) (fun K hK=>?_) AllReadyH.nil)
       go_simp
       refine hK.out _ _ trivial (fun hHeld=>?_)
       clear hK K
       (first | simp only [pA,pZ,pS] | simp only [pN] | skip)
       refine wpAnyH_ready (rs:=[12]) (by kernel_rfl) (by simp) (AllReadyH.cons (List.getElem?_toArray.trans rfl) (fun K hK=>?_) AllReadyH.nil)
       go_simp
       (go_at_call 60;refine (zaR p0 p1 p2 (some ⟨fb,fo,none⟩) T f Z.wE w6 HTK.out hT3 HFC.out).mono ?_;rintro e' w7 ⟨q0,q1,q2,rfl,HTQ,hb7⟩)
       (try go_wp2_with fail)
       refine hK.out _ _ trivial (fun hHeld=>?_)
       clear hK K
       (first | simp only [pA,pZ,pS] | simp only [pN] | skip)
       have B7:=hidP (B6.out.trans (hb7.mono B6.out.size))
       have e9:=zaa hb7 e8
       clear hb7
       refine wpAnyH_ready (rs:=[13]) (by kernel_rfl) (by simp) (AllReadyH.cons (List.getElem?_toArray.trans rfl) (fun K hK=>?_) AllReadyH.nil)
       go_simp
       (go_at_call 55;(try rw [hwrap]);refine (HG1.out (pre ++ ys) w7 q0 q1 q2 (SXR.out.bel B7.out) (HJJ.out _ _ _ JR.out B7.out) HLE.out HTQ.out).mono ?_;intro e' w8 hpo;obtain ⟨b,rfl,HB1,HB0⟩:=hpo.one;clear hpo)
       (try go_wp2_with fail)
       refine hK.out _ _ trivial (fun hHeld=>?_)
       clear hK K
       (first | simp only [pA,pZ,pS] | simp only [pN] | skip)
       refine tk 14 hHeld ?_
       (try simp only [pA,pZ,pS])
       refine tk 15 hHeld ?_
       (try simp only [pA,pZ,pS])
       refine wpAnyH_done (by kernel_rfl) ?_ _
       refine NoPanic.normal ?_
       clear hwrap HG1 HLE HAG HTQ hHeld e0 e1 e2 e3 v0 v1 v2 e8 e9 d0 d1 d2 d3 u0 u1 u2 x0 hcell hJ
       cases b
       ·have HBX:=hidP (HB0.out rfl)
        clear HB0 HB1
        simp only [Bool.not_false]
        go_wp2_with fail
        go_ret
        exact .inr ⟨rfl,HBX.out⟩
       ·obtain ⟨ys2,hl2,hj2,hk2⟩:=HB1.out rfl
        have HJ2:=hidP hj2
        have HL2:=hidP hl2
        have HK2:=hidP hk2
        clear hj2 hl2 hk2 HB1 HB0
        simp only [Bool.not_true]
        go_wp2_with fail
        go_roundw
        case rel=>exact ⟨j+1,ys ++ ys2,by go_num,by omega,by rw [HST.out,List.map_append,HYS.out,HL2.out],by rw [← List.append_assoc];exact HJ2.out,KR.out.trans ((Kq.of_below B7.out).trans HK2.out)⟩
        case measure=>(simp [intOf];omega)
     ·go_simp
      refine hK.out _ _ trivial (fun hHeld=>?_)
      clear hK K
      (first | simp only [pA,pZ,pS] | simp only [pN] | skip)
      refine wpAnyH_ready (rs:=[5,10]) (by kernel_rfl) (by simp) (AllReadyH.cons (List.getElem?_toArray.trans rfl) (fun K hK=>?_) (AllReadyH.cons (List.getElem?_toArray.trans rfl) (fun K hK=>?_) AllReadyH.nil))
      ·go_simp
       refine hK.out _ _ trivial (fun hHeld=>?_)
       clear hK K
       (first | simp only [pA,pZ,pS] | simp only [pN] | skip)
       refine wpAnyH_ready (rs:=[10]) (by kernel_rfl) (by simp) (AllReadyH.cons (List.getElem?_toArray.trans rfl) (fun K hK=>?_) AllReadyH.nil)
       go_simp
       refine hK.out _ _ trivial (fun hHeld=>?_)
       clear hK K
       (first | simp only [pA,pZ,pS] | simp only [pN] | skip)
       refine wpAnyH_ready (rs:=[12]) (by kernel_rfl) (by simp) (AllReadyH.cons (List.getElem?_toArray.trans rfl) (fun K hK=>?_) AllReadyH.nil)
       go_simp
       (go_at_call 60;refine (zaR p0 p1 p2 (some ⟨fb,fo,none⟩) T f Z.wE w6 HTK.out hT3 HFC.out).mono ?_;rintro e' w7 ⟨q0,q1,q2,rfl,HTQ,hb7⟩)
       (try go_wp2_with fail)
       refine hK.out _ _ trivial (fun hHeld=>?_)
       clear hK K
       (first | simp only [pA,pZ,pS] | simp only [pN] | skip)
       have B7:=hidP (B6.out.trans (hb7.mono B6.out.size))
       have e9:=zaa hb7 e8
       clear hb7
       refine wpAnyH_ready (rs:=[13]) (by kernel_rfl) (by simp) (AllReadyH.cons (List.getElem?_toArray.trans rfl) (fun K hK=>?_) AllReadyH.nil)
       go_simp
       (go_at_call 55;(try rw [hwrap]);refine (HG1.out (pre ++ ys) w7 q0 q1 q2 (SXR.out.bel B7.out) (HJJ.out _ _ _ JR.out B7.out) HLE.out HTQ.out).mono ?_;intro e' w8 hpo;obtain ⟨b,rfl,HB1,HB0⟩:=hpo.one;clear hpo)
       (try go_wp2_with fail)
       refine hK.out _ _ trivial (fun hHeld=>?_)
       clear hK K
       (first | simp only [pA,pZ,pS] | simp only [pN] | skip)
       refine tk 14 hHeld ?_
       (try simp only [pA,pZ,pS])
       refine tk 15 hHeld ?_
       (try simp only [pA,pZ,pS])
       refine wpAnyH_done (by kernel_rfl) ?_ _
       refine NoPanic.normal ?_
       clear hwrap HG1 HLE HAG HTQ hHeld e0 e1 e2 e3 v0 v1 v2 e8 e9 d0 d1 d2 d3 u0 u1 u2 x0 hcell hJ
       cases b
       ·have HBX:=hidP (HB0.out rfl)
        clear HB0 HB1
        simp only [Bool.not_false]
        go_wp2_with fail
        go_ret
        exact .inr ⟨rfl,HBX.out⟩
       ·obtain ⟨ys2,hl2,hj2,hk2⟩:=HB1.out rfl
        have HJ2:=hidP hj2
        have HL2:=hidP hl2
        have HK2:=hidP hk2
        clear hj2 hl2 hk2 HB1 HB0
        simp only [Bool.not_true]
        go_wp2_with fail
        go_roundw
        case rel=>exact ⟨j+1,ys ++ ys2,by go_num,by omega,by rw [HST.out,List.map_append,HYS.out,HL2.out],by rw [← List.append_assoc];exact HJ2.out,KR.out.trans ((Kq.of_below B7.out).trans HK2.out)⟩
        case measure=>(simp [intOf];omega)
      ·go_simp
       refine hK.out _ _ trivial (fun hHeld=>?_)
       clear hK K
       (first | simp only [pA,pZ,pS] | simp only [pN] | skip)
       refine wpAnyH_ready (rs:=[5,12]) (by kernel_rfl) (by simp) (AllReadyH.cons (List.getElem?_toArray.trans rfl) (fun K hK=>?_) (AllReadyH.cons (List.getElem?_toArray.trans rfl) (fun K hK=>?_) AllReadyH.nil))
       ·go_simp
        refine hK.out _ _ trivial (fun hHeld=>?_)
        clear hK K
        (first | simp only [pA,pZ,pS] | simp only [pN] | skip)
        refine wpAnyH_ready (rs:=[12]) (by kernel_rfl) (by simp) (AllReadyH.cons (List.getElem?_toArray.trans rfl) (fun K hK=>?_) AllReadyH.nil)
        go_simp
        (go_at_call 60;refine (zaR p0 p1 p2 (some ⟨fb,fo,none⟩) T f Z.wE w6 HTK.out hT3 HFC.out).mono ?_;rintro e' w7 ⟨q0,q1,q2,rfl,HTQ,hb7⟩)
        (try go_wp2_with fail)
        refine hK.out _ _ trivial (fun hHeld=>?_)
        clear hK K
        (first | simp only [pA,pZ,pS] | simp only [pN] | skip)
        have B7:=hidP (B6.out.trans (hb7.mono B6.out.size))
        have e9:=zaa hb7 e8
        clear hb7
        refine wpAnyH_ready (rs:=[13]) (by kernel_rfl) (by simp) (AllReadyH.cons (List.getElem?_toArray.trans rfl) (fun K hK=>?_) AllReadyH.nil)
        go_simp
        (go_at_call 55;(try rw [hwrap]);refine (HG1.out (pre ++ ys) w7 q0 q1 q2 (SXR.out.bel B7.out) (HJJ.out _ _ _ JR.out B7.out) HLE.out HTQ.out).mono ?_;intro e' w8 hpo;obtain ⟨b,rfl,HB1,HB0⟩:=hpo.one;clear hpo)
        (try go_wp2_with fail)
        refine hK.out _ _ trivial (fun hHeld=>?_)
        clear hK K
        (first | simp only [pA,pZ,pS] | simp only [pN] | skip)
        refine tk 14 hHeld ?_
        (try simp only [pA,pZ,pS])
        refine tk 15 hHeld ?_
        (try simp only [pA,pZ,pS])
        refine wpAnyH_done (by kernel_rfl) ?_ _
        refine NoPanic.normal ?_
        clear hwrap HG1 HLE HAG HTQ hHeld e0 e1 e2 e3 v0 v1 v2 e8 e9 d0 d1 d2 d3 u0 u1 u2 x0 hcell hJ
        cases b
        ·have HBX:=hidP (HB0.out rfl)
         clear HB0 HB1
         simp only [Bool.not_false]
         go_wp2_with fail
         go_ret
         exact .inr ⟨rfl,HBX.out⟩
        ·obtain ⟨ys2,hl2,hj2,hk2⟩:=HB1.out rfl
         have HJ2:=hidP hj2
         have HL2:=hidP hl2
         have HK2:=hidP hk2
         clear hj2 hl2 hk2 HB1 HB0
         simp only [Bool.not_true]
         go_wp2_with fail
         go_roundw
         case rel=>exact ⟨j+1,ys ++ ys2,by go_num,by omega,by rw [HST.out,List.map_append,HYS.out,HL2.out],by rw [← List.append_assoc];exact HJ2.out,KR.out.trans ((Kq.of_below B7.out).trans HK2.out)⟩
         case measure=>(simp [intOf];omega)
       ·go_simp
        (go_at_call 60;refine (zaR p0 p1 p2 (some ⟨fb,fo,none⟩) T f Z.wE w6 HTK.out hT3 HFC.out).mono ?_;rintro e' w7 ⟨q0,q1,q2,rfl,HTQ,hb7⟩)
        (try go_wp2_with fail)
        refine hK.out _ _ trivial (fun hHeld=>?_)
        clear hK K
        (first | simp only [pA,pZ,pS] | simp only [pN] | skip)
        have B7:=hidP (B6.out.trans (hb7.mono B6.out.size))
        have e9:=zaa hb7 e8
        clear hb7
        refine wpAnyH_ready (rs:=[5]) (by kernel_rfl) (by simp) (AllReadyH.cons (List.getElem?_toArray.trans rfl) (fun K hK=>?_) AllReadyH.nil)
        go_simp
        refine hK.out _ _ trivial (fun hHeld=>?_)
        clear hK K
        (first | simp only [pA,pZ,pS] | simp only [pN] | skip)
        refine wpAnyH_ready (rs:=[13]) (by kernel_rfl) (by simp) (AllReadyH.cons (List.getElem?_toArray.trans rfl) (fun K hK=>?_) AllReadyH.nil)
        go_simp
        (go_at_call 55;(try rw [hwrap]);refine (HG1.out (pre ++ ys) w7 q0 q1 q2 (SXR.out.bel B7.out) (HJJ.out _ _ _ JR.out B7.out) HLE.out HTQ.out).mono ?_;intro e' w8 hpo;obtain ⟨b,rfl,HB1,HB0⟩:=hpo.one;clear hpo)
        (try go_wp2_with fail)
        refine hK.out _ _ trivial (fun hHeld=>?_)
        clear hK K
        (first | simp only [pA,pZ,pS] | simp only [pN] | skip)
        refine tk 14 hHeld ?_
        (try simp only [pA,pZ,pS])
        refine tk 15 hHeld ?_
        (try simp only [pA,pZ,pS])
        refine wpAnyH_done (by kernel_rfl) ?_ _
        refine NoPanic.normal ?_
        clear hwrap HG1 HLE HAG HTQ hHeld e0 e1 e2 e3 v0 v1 v2 e8 e9 d0 d1 d2 d3 u0 u1 u2 x0 hcell hJ
        cases b
        ·have HBX:=hidP (HB0.out rfl)
         clear HB0 HB1
         simp only [Bool.not_false]
         go_wp2_with fail
         go_ret
         exact .inr ⟨rfl,HBX.out⟩
        ·obtain ⟨ys2,hl2,hj2,hk2⟩:=HB1.out rfl
         have HJ2:=hidP hj2
         have HL2:=hidP hl2
         have HK2:=hidP hk2
         clear hj2 hl2 hk2 HB1 HB0
         simp only [Bool.not_true]
         go_wp2_with fail
         go_roundw
         case rel=>exact ⟨j+1,ys ++ ys2,by go_num,by omega,by rw [HST.out,List.map_append,HYS.out,HL2.out],by rw [← List.append_assoc];exact HJ2.out,KR.out.trans ((Kq.of_below B7.out).trans HK2.out)⟩
         case measure=>(simp [intOf];omega)
     ·go_simp
      refine hK.out _ _ trivial (fun hHeld=>?_)
      clear hK K
      (first | simp only [pA,pZ,pS] | simp only [pN] | skip)
      refine wpAnyH_ready (rs:=[5,8]) (by kernel_rfl) (by simp) (AllReadyH.cons (List.getElem?_toArray.trans rfl) (fun K hK=>?_) (AllReadyH.cons (List.getElem?_toArray.trans rfl) (fun K hK=>?_) AllReadyH.nil))
      ·go_simp
       refine hK.out _ _ trivial (fun hHeld=>?_)
       clear hK K
       (first | simp only [pA,pZ,pS] | simp only [pN] | skip)
       refine wpAnyH_ready (rs:=[8]) (by kernel_rfl) (by simp) (AllReadyH.cons (List.getElem?_toArray.trans rfl) (fun K hK=>?_) AllReadyH.nil)
       go_simp
       refine hK.out _ _ trivial (fun hHeld=>?_)
       clear hK K
       (first | simp only [pA,pZ,pS] | simp only [pN] | skip)
       refine wpAnyH_ready (rs:=[12]) (by kernel_rfl) (by simp) (AllReadyH.cons (List.getElem?_toArray.trans rfl) (fun K hK=>?_) AllReadyH.nil)
       go_simp
       (go_at_call 60;refine (zaR p0 p1 p2 (some ⟨fb,fo,none⟩) T f Z.wE w6 HTK.out hT3 HFC.out).mono ?_;rintro e' w7 ⟨q0,q1,q2,rfl,HTQ,hb7⟩)
       (try go_wp2_with fail)
       refine hK.out _ _ trivial (fun hHeld=>?_)
       clear hK K
       (first | simp only [pA,pZ,pS] | simp only [pN] | skip)
       have B7:=hidP (B6.out.trans (hb7.mono B6.out.size))
       have e9:=zaa hb7 e8
       clear hb7
       refine wpAnyH_ready (rs:=[13]) (by kernel_rfl) (by simp) (AllReadyH.cons (List.getElem?_toArray.trans rfl) (fun K hK=>?_) AllReadyH.nil)
       go_simp
       (go_at_call 55;(try rw [hwrap]);refine (HG1.out (pre ++ ys) w7 q0 q1 q2 (SXR.out.bel B7.out) (HJJ.out _ _ _ JR.out B7.out) HLE.out HTQ.out).mono ?_;intro e' w8 hpo;obtain ⟨b,rfl,HB1,HB0⟩:=hpo.one;clear hpo)
       (try go_wp2_with fail)
       refine hK.out _ _ trivial (fun hHeld=>?_)
       clear hK K
       (first | simp only [pA,pZ,pS] | simp only [pN] | skip)
       refine tk 14 hHeld ?_
       (try simp only [pA,pZ,pS])
       refine tk 15 hHeld ?_
       (try simp only [pA,pZ,pS])
       refine wpAnyH_done (by kernel_rfl) ?_ _
       refine NoPanic.normal ?_
       clear hwrap HG1 HLE HAG HTQ hHeld e0 e1 e2 e3 v0 v1 v2 e8 e9 d0 d1 d2 d3 u0 u1 u2 x0 hcell hJ
       cases b
       ·have HBX:=hidP (HB0.out rfl)
        clear HB0 HB1
        simp only [Bool.not_false]
        go_wp2_with fail
        go_ret
        exact .inr ⟨rfl,HBX.out⟩
       ·obtain ⟨ys2,hl2,hj2,hk2⟩:=HB1.out rfl
        have HJ2:=hidP hj2
        have HL2:=hidP hl2
        have HK2:=hidP hk2
        clear hj2 hl2 hk2 HB1 HB0
        simp only [Bool.not_true]
        go_wp2_with fail
        go_roundw
        case rel=>exact ⟨j+1,ys ++ ys2,by go_num,by omega,by rw [HST.out,List.map_append,HYS.out,HL2.out],by rw [← List.append_assoc];exact HJ2.out,KR.out.trans ((Kq.of_below B7.out).trans HK2.out)⟩
        case measure=>(simp [intOf];omega)
      ·go_simp
       refine hK.out _ _ trivial (fun hHeld=>?_)
       clear hK K
       (first | simp only [pA,pZ,pS] | simp only [pN] | skip)
       refine wpAnyH_ready (rs:=[5,12]) (by kernel_rfl) (by simp) (AllReadyH.cons (List.getElem?_toArray.trans rfl) (fun K hK=>?_) (AllReadyH.cons (List.getElem?_toArray.trans rfl) (fun K hK=>?_) AllReadyH.nil))
       ·go_simp
        refine hK.out _ _ trivial (fun hHeld=>?_)
        clear hK K
        (first | simp only [pA,pZ,pS] | simp only [pN] | skip)
        refine wpAnyH_ready (rs:=[12]) (by kernel_rfl) (by simp) (AllReadyH.cons (List.getElem?_toArray.trans rfl) (fun K hK=>?_) AllReadyH.nil)
        go_simp
        (go_at_call 60;refine (zaR p0 p1 p2 (some ⟨fb,fo,none⟩) T f Z.wE w6 HTK.out hT3 HFC.out).mono ?_;rintro e' w7 ⟨q0,q1,q2,rfl,HTQ,hb7⟩)
        (try go_wp2_with fail)
        refine hK.out _ _ trivial (fun hHeld=>?_)
        clear hK K
        (first | simp only [pA,pZ,pS] | simp only [pN] | skip)
        have B7:=hidP (B6.out.trans (hb7.mono B6.out.size))
        have e9:=zaa hb7 e8
        clear hb7
        refine wpAnyH_ready (rs:=[13]) (by kernel_rfl) (by simp) (AllReadyH.cons (List.getElem?_toArray.trans rfl) (fun K hK=>?_) AllReadyH.nil)
        go_simp
        (go_at_call 55;(try rw [hwrap]);refine (HG1.out (pre ++ ys) w7 q0 q1 q2 (SXR.out.bel B7.out) (HJJ.out _ _ _ JR.out B7.out) HLE.out HTQ.out).mono ?_;intro e' w8 hpo;obtain ⟨b,rfl,HB1,HB0⟩:=hpo.one;clear hpo)
        (try go_wp2_with fail)
        refine hK.out _ _ trivial (fun hHeld=>?_)
        clear hK K
        (first | simp only [pA,pZ,pS] | simp only [pN] | skip)
        refine tk 14 hHeld ?_
        (try simp only [pA,pZ,pS])
        refine tk 15 hHeld ?_
        (try simp only [pA,pZ,pS])
        refine wpAnyH_done (by kernel_rfl) ?_ _
        refine NoPanic.normal ?_
        clear hwrap HG1 HLE HAG HTQ hHeld e0 e1 e2 e3 v0 v1 v2 e8 e9 d0 d1 d2 d3 u0 u1 u2 x0 hcell hJ
        cases b
        ·have HBX:=hidP (HB0.out rfl)
         clear HB0 HB1
         simp only [Bool.not_false]
         go_wp2_with fail
         go_ret
         exact .inr ⟨rfl,HBX.out⟩
        ·obtain ⟨ys2,hl2,hj2,hk2⟩:=HB1.out rfl
         have HJ2:=hidP hj2
         have HL2:=hidP hl2
         have HK2:=hidP hk2
         clear hj2 hl2 hk2 HB1 HB0
         simp only [Bool.not_true]
         go_wp2_with fail
         go_roundw
         case rel=>exact ⟨j+1,ys ++ ys2,by go_num,by omega,by rw [HST.out,List.map_append,HYS.out,HL2.out],by rw [← List.append_assoc];exact HJ2.out,KR.out.trans ((Kq.of_below B7.out).trans HK2.out)⟩
         case measure=>(simp [intOf];omega)
       ·go_simp
        (go_at_call 60;refine (zaR p0 p1 p2 (some ⟨fb,fo,none⟩) T f Z.wE w6 HTK.out hT3 HFC.out).mono ?_;rintro e' w7 ⟨q0,q1,q2,rfl,HTQ,hb7⟩)
        (try go_wp2_with fail)
        refine hK.out _ _ trivial (fun hHeld=>?_)
        clear hK K
        (first | simp only [pA,pZ,pS] | simp only [pN] | skip)
        have B7:=hidP (B6.out.trans (hb7.mono B6.out.size))
        have e9:=zaa hb7 e8
        clear hb7
        refine wpAnyH_ready (rs:=[5]) (by kernel_rfl) (by simp) (AllReadyH.cons (List.getElem?_toArray.trans rfl) (fun K hK=>?_) AllReadyH.nil)
        go_simp
        refine hK.out _ _ trivial (fun hHeld=>?_)
        clear hK K
        (first | simp only [pA,pZ,pS] | simp only [pN] | skip)
        refine wpAnyH_ready (rs:=[13]) (by kernel_rfl) (by simp) (AllReadyH.cons (List.getElem?_toArray.trans rfl) (fun K hK=>?_) AllReadyH.nil)
        go_simp
        (go_at_call 55;(try rw [hwrap]);refine (HG1.out (pre ++ ys) w7 q0 q1 q2 (SXR.out.bel B7.out) (HJJ.out _ _ _ JR.out B7.out) HLE.out HTQ.out).mono ?_;intro e' w8 hpo;obtain ⟨b,rfl,HB1,HB0⟩:=hpo.one;clear hpo)
        (try go_wp2_with fail)
        refine hK.out _ _ trivial (fun hHeld=>?_)
        clear hK K
        (first | simp only [pA,pZ,pS] | simp only [pN] | skip)
        refine tk 14 hHeld ?_
        (try simp only [pA,pZ,pS])
        refine tk 15 hHeld ?_
        (try simp only [pA,pZ,pS])
        refine wpAnyH_done (by kernel_rfl) ?_ _
        refine NoPanic.normal ?_
        clear hwrap HG1 HLE HAG HTQ hHeld e0 e1 e2 e3 v0 v1 v2 e8 e9 d0 d1 d2 d3 u0 u1 u2 x0 hcell hJ
        cases b
        ·have HBX:=hidP (HB0.out rfl)
         clear HB0 HB1
         simp only [Bool.not_false]
         go_wp2_with fail
         go_ret
         exact .inr ⟨rfl,HBX.out⟩
        ·obtain ⟨ys2,hl2,hj2,hk2⟩:=HB1.out rfl
         have HJ2:=hidP hj2
         have HL2:=hidP hl2
         have HK2:=hidP hk2
         clear hj2 hl2 hk2 HB1 HB0
         simp only [Bool.not_true]
         go_wp2_with fail
         go_roundw
         case rel=>exact ⟨j+1,ys ++ ys2,by go_num,by omega,by rw [HST.out,List.map_append,HYS.out,HL2.out],by rw [← List.append_assoc];exact HJ2.out,KR.out.trans ((Kq.of_below B7.out).trans HK2.out)⟩
         case measure=>(simp [intOf];omega)
    ·go_simp
     refine hK.out _ _ trivial (fun hHeld=>?_)
     clear hK K
     (first | simp only [pA,pZ,pS] | simp only [pN] | skip)
     refine wpAnyH_ready (rs:=[0]) (by kernel_rfl) (by simp) (AllReadyH.cons (List.getElem?_toArray.trans rfl) (fun K hK=>?_) AllReadyH.nil)
     go_simp
     refine hK.out _ _ trivial (fun hHeld=>?_)
     clear hK K
     (first | simp only [pA,pZ,pS] | simp only [pN] | skip)
     refine wpAnyH_ready (rs:=[3]) (by kernel_rfl) (by simp) (AllReadyH.cons (List.getElem?_toArray.trans rfl) (fun K hK=>?_) AllReadyH.nil)
     go_simp
     (go_at_call 59;refine (HAG.out _ (Below.refl _ _).drew).mono ?_;rintro e' w6 ⟨rfl,hb6⟩)
     (try go_wp2_with fail)
     refine hK.out _ _ trivial (fun hHeld=>?_)
     clear hK K
     (first | simp only [pA,pZ,pS] | simp only [pN] | skip)
     have e0:=zaa hb6 d0
     have e1:=zaa hb6 d1
     have e2:=zaa hb6 d2
     have e3:=zaa hb6 d3
     have v0:=zaa hb6 u0
     have v1:=zaa hb6 u1
     have v2:=zaa hb6 u2
     have e8:=zaa hb6 x0
     have B6:=hidP (show Below wr.heap.size wr w6 from (Below.refl _ _).drew.trans (hb6.mono (by simp)))
     clear hb6
     refine tk 4 hHeld ?_
     (try simp only [pA,pZ,pS])
     refine tk 6 hHeld ?_
     (try simp only [pA,pZ,pS])
     refine tk 7 hHeld ?_
     (try simp only [pA,pZ,pS])
     refine tk 9 hHeld ?_
     (try simp only [pA,pZ,pS])
     refine tk 11 hHeld ?_
     (try simp only [pA,pZ,pS])
     refine wpAnyH_ready (rs:=[5,8,10]) (by kernel_rfl) (by simp) (AllReadyH.cons (List.getElem?_toArray.trans rfl) (fun K hK=>?_) (AllReadyH.cons (List.getElem?_toArray.trans rfl) (fun K hK=>?_) (AllReadyH.cons (List.getElem?_toArray.trans rfl) (fun K hK=>?_) AllReadyH.nil)))
     ·go_simp
      refine hK.out _ _ trivial (fun hHeld=>?_)
      clear hK K
      (first | simp only [pA,pZ,pS] | simp only [pN] | skip)
      refine wpAnyH_ready (rs:=[8,10]) (by kernel_rfl) (by simp) (AllReadyH.cons (List.getElem?_toArray.trans rfl) (fun K hK=>?_) (AllReadyH.cons (List.getElem?_toArray.trans rfl) (fun K hK=>?_) AllReadyH.nil))
      ·go_simp
       refine hK.out _ _ trivial (fun hHeld=>?_)
       clear hK K
       (first | simp only [pA,pZ,pS] | simp only [pN] | skip)
       refine wpAnyH_ready (rs:=[10]) (by kernel_rfl) (by simp) (AllReadyH.cons (List.getElem?_toArray.trans rfl) (fun K hK=>?_) AllReadyH.nil)
       go_simp
       refine hK.out _ _ trivial (fun hHeld=>?_)
       clear hK K
       (first | simp only [pA,pZ,pS] | simp only [pN] | skip)
       refine wpAnyH_ready (rs:=[12]) (by kernel_rfl) (by simp) (AllReadyH.cons (List.getElem?_toArray.trans rfl) (fun K hK=>?_) AllReadyH.nil)
       go_simp
       (go_at_call 60;refine (zaR p0 p1 p2 (some ⟨fb,fo,none⟩) T f Z.wE w6 HTK.out hT3 HFC.out).mono ?_;rintro e' w7 ⟨q0,q1,q2,rfl,HTQ,hb7⟩)
       (try go_wp2_with fail)
       refine hK.out _ _ trivial (fun hHeld=>?_)
       clear hK K
       (first | simp only [pA,pZ,pS] | simp only [pN] | skip)
       have B7:=hidP (B6.out.trans (hb7.mono B6.out.size))
       have e9:=zaa hb7 e8
       clear hb7
       refine wpAnyH_ready (rs:=[13]) (by kernel_rfl) (by simp) (AllReadyH.cons (List.getElem?_toArray.trans rfl) (fun K hK=>?_) AllReadyH.nil)
       go_simp
       (go_at_call 55;(try rw [hwrap]);refine (HG1.out (pre ++ ys) w7 q0 q1 q2 (SXR.out.bel B7.out) (HJJ.out _ _ _ JR.out B7.out) HLE.out HTQ.out).mono ?_;intro e' w8 hpo;obtain ⟨b,rfl,HB1,HB0⟩:=hpo.one;clear hpo)
       (try go_wp2_with fail)
       refine hK.out _ _ trivial (fun hHeld=>?_)
       clear hK K
       (first | simp only [pA,pZ,pS] | simp only [pN] | skip)
       refine tk 14 hHeld ?_
       (try simp only [pA,pZ,pS])
       refine tk 15 hHeld ?_
       (try simp only [pA,pZ,pS])
       refine wpAnyH_done (by kernel_rfl) ?_ _
       refine NoPanic.normal ?_
       clear hwrap HG1 HLE HAG HTQ hHeld e0 e1 e2 e3 v0 v1 v2 e8 e9 d0 d1 d2 d3 u0 u1 u2 x0 hcell hJ
       cases b
       ·have HBX:=hidP (HB0.out rfl)
        clear HB0 HB1
        simp only [Bool.not_false]
        go_wp2_with fail
        go_ret
        exact .inr ⟨rfl,HBX.out⟩
       ·obtain ⟨ys2,hl2,hj2,hk2⟩:=HB1.out rfl
        have HJ2:=hidP hj2
        have HL2:=hidP hl2
        have HK2:=hidP hk2
        clear hj2 hl2 hk2 HB1 HB0
        simp only [Bool.not_true]
        go_wp2_with fail
        go_roundw
        case rel=>exact ⟨j+1,ys ++ ys2,by go_num,by omega,by rw [HST.out,List.map_append,HYS.out,HL2.out],by rw [← List.append_assoc];exact HJ2.out,KR.out.trans ((Kq.of_below B7.out).trans HK2.out)⟩
        case measure=>(simp [intOf];omega)
      ·go_simp
       refine hK.out _ _ trivial (fun hHeld=>?_)
       clear hK K
       (first | simp only [pA,pZ,pS] | simp only [pN] | skip)
       refine wpAnyH_ready (rs:=[8]) (by kernel_rfl) (by simp) (AllReadyH.cons (List.getElem?_toArray.trans rfl) (fun K hK=>?_) AllReadyH.nil)
       go_simp
       refine hK.out _ _ trivial (fun hHeld=>?_)
       clear hK K
       (first | simp only [pA,pZ,pS] | simp only [pN] | skip)
       refine wpAnyH_ready (rs:=[12]) (by kernel_rfl) (by simp) (AllReadyH.cons (List.getElem?_toArray.trans rfl) (fun K hK=>?_) AllReadyH.nil)
       go_simp
       (go_at_call 60;refine (zaR p0 p1 p2 (some ⟨fb,fo,none⟩) T f Z.wE w6 HTK.out hT3 HFC.out).mono ?_;rintro e' w7 ⟨q0,q1,q2,rfl,HTQ,hb7⟩)
       (try go_wp2_with fail)
       refine hK.out _ _ trivial (fun hHeld=>?_)
       clear hK K
       (first | simp only [pA,pZ,pS] | simp only [pN] | skip)
       have B7:=hidP (B6.out.trans (hb7.mono B6.out.size))
       have e9:=zaa hb7 e8
       clear hb7
       refine wpAnyH_ready (rs:=[13]) (by kernel_rfl) (by simp) (AllReadyH.cons (List.getElem?_toArray.trans rfl) (fun K hK=>?_) AllReadyH.nil)
       go_simp
       (go_at_call 55;(try rw [hwrap]);refine (HG1.out (pre ++ ys) w7 q0 q1 q2 (SXR.out.bel B7.out) (HJJ.out _ _ _ JR.out B7.out) HLE.out HTQ.out).mono ?_;intro e' w8 hpo;obtain ⟨b,rfl,HB1,HB0⟩:=hpo.one;clear hpo)
       (try go_wp2_with fail)
       refine hK.out _ _ trivial (fun hHeld=>?_)
       clear hK K
       (first | simp only [pA,pZ,pS] | simp only [pN] | skip)
       refine tk 14 hHeld ?_
       (try simp only [pA,pZ,pS])
       refine tk 15 hHeld ?_
       (try simp only [pA,pZ,pS])
       refine wpAnyH_done (by kernel_rfl) ?_ _
       refine NoPanic.normal ?_
       clear hwrap HG1 HLE HAG HTQ hHeld e0 e1 e2 e3 v0 v1 v2 e8 e9 d0 d1 d2 d3 u0 u1 u2 x0 hcell hJ
       cases b
       ·have HBX:=hidP (HB0.out rfl)
        clear HB0 HB1
        simp only [Bool.not_false]
        go_wp2_with fail
        go_ret
        exact .inr ⟨rfl,HBX.out⟩
       ·obtain ⟨ys2,hl2,hj2,hk2⟩:=HB1.out rfl
        have HJ2:=hidP hj2
        have HL2:=hidP hl2
        have HK2:=hidP hk2
        clear hj2 hl2 hk2 HB1 HB0
        simp only [Bool.not_true]
        go_wp2_with fail
        go_roundw
        case rel=>exact ⟨j+1,ys ++ ys2,by go_num,by omega,by rw [HST.out,List.map_append,HYS.out,HL2.out],by rw [← List.append_assoc];exact HJ2.out,KR.out.trans ((Kq.of_below B7.out).trans HK2.out)⟩
        case measure=>(simp [intOf];omega)
     ·go_simp
      refine hK.out _ _ trivial (fun hHeld=>?_)
      clear hK K
      (first | simp only [pA,pZ,pS] | simp only [pN] | skip)
      refine wpAnyH_ready (rs:=[5,10]) (by kernel_rfl) (by simp) (AllReadyH.cons (List.getElem?_toArray.trans rfl) (fun K hK=>?_) (AllReadyH.cons (List.getElem?_toArray.trans rfl) (fun K hK=>?_) AllReadyH.nil))
      ·go_simp
       refine hK.out _ _ trivial (fun hHeld=>?_)
       clear hK K
       (first | simp only [pA,pZ,pS] | simp only [pN] | skip)
       refine wpAnyH_ready (rs:=[10]) (by kernel_rfl) (by simp) (AllReadyH.cons (List.getElem?_toArray.trans rfl) (fun K hK=>?_) AllReadyH.nil)
       go_simp
       refine hK.out _ _ trivial (fun hHeld=>?_)
       clear hK K
       (first | simp only [pA,pZ,pS] | simp only [pN] | skip)
       refine wpAnyH_ready (rs:=[12]) (by kernel_rfl) (by simp) (AllReadyH.cons (List.getElem?_toArray.trans rfl) (fun K hK=>?_) AllReadyH.nil)
       go_simp
       (go_at_call 60;refine (zaR p0 p1 p2 (some ⟨fb,fo,none⟩) T f Z.wE w6 HTK.out hT3 HFC.out).mono ?_;rintro e' w7 ⟨q0,q1,q2,rfl,HTQ,hb7⟩)
       (try go_wp2_with fail)
       refine hK.out _ _ trivial (fun hHeld=>?_)
       clear hK K
       (first | simp only [pA,pZ,pS] | simp only [pN] | skip)
       have B7:=hidP (B6.out.trans (hb7.mono B6.out.size))
       have e9:=zaa hb7 e8
       clear hb7
       refine wpAnyH_ready (rs:=[13]) (by kernel_rfl) (by simp) (AllReadyH.cons (List.getElem?_toArray.trans rfl) (fun K hK=>?_) AllReadyH.nil)
       go_simp
       (go_at_call 55;(try rw [hwrap]);refine (HG1.out (pre ++ ys) w7 q0 q1 q2 (SXR.out.bel B7.out) (HJJ.out _ _ _ JR.out B7.out) HLE.out HTQ.out).mono ?_;intro e' w8 hpo;obtain ⟨b,rfl,HB1,HB0⟩:=hpo.one;clear hpo)
       (try go_wp2_with fail)
       refine hK.out _ _ trivial (fun hHeld=>?_)
       clear hK K
       (first | simp only [pA,pZ,pS] | simp only [pN] | skip)
       refine tk 14 hHeld ?_
       (try simp only [pA,pZ,pS])
       refine tk 15 hHeld ?_
       (try simp only [pA,pZ,pS])
       refine wpAnyH_done (by kernel_rfl) ?_ _
       refine NoPanic.normal ?_
       clear hwrap HG1 HLE HAG HTQ hHeld e0 e1 e2 e3 v0 v1 v2 e8 e9 d0 d1 d2 d3 u0 u1 u2 x0 hcell hJ
       cases b
       ·have HBX:=hidP (HB0.out rfl)
        clear HB0 HB1
        simp only [Bool.not_false]
        go_wp2_with fail
        go_ret
        exact .inr ⟨rfl,HBX.out⟩
       ·obtain ⟨ys2,hl2,hj2,hk2⟩:=HB1.out rfl
        have HJ2:=hidP hj2
        have HL2:=hidP hl2
        have HK2:=hidP hk2
        clear hj2 hl2 hk2 HB1 HB0
        simp only [Bool.not_true]
        go_wp2_with fail
        go_roundw
        case rel=>exact ⟨j+1,ys ++ ys2,by go_num,by omega,by rw [HST.out,List.map_append,HYS.out,HL2.out],by rw [← List.append_assoc];exact HJ2.out,KR.out.trans ((Kq.of_below B7.out).trans HK2.out)⟩
        case measure=>(simp [intOf];omega)
      ·go_simp
       refine hK.out _ _ trivial (fun hHeld=>?_)
       clear hK K
       (first | simp only [pA,pZ,pS] | simp only [pN] | skip)
       refine wpAnyH_ready (rs:=[5,12]) (by kernel_rfl) (by simp) (AllReadyH.cons (List.getElem?_toArray.trans rfl) (fun K hK=>?_) (AllReadyH.cons (List.getElem?_toArray.trans rfl) (fun K hK=>?_) AllReadyH.nil))
       ·go_simp
        refine hK.out _ _ trivial (fun hHeld=>?_)
        clear hK K
        (first | simp only [pA,pZ,pS] | simp only [pN] | skip)
        refine wpAnyH_ready (rs:=[12]) (by kernel_rfl) (by simp) (AllReadyH.cons (List.getElem?_toArray.trans rfl) (fun K hK=>?_) AllReadyH.nil)
        go_simp
        (go_at_call 60;refine (zaR p0 p1 p2 (some ⟨fb,fo,none⟩) T f Z.wE w6 HTK.out hT3 HFC.out).mono ?_;rintro e' w7 ⟨q0,q1,q2,rfl,HTQ,hb7⟩)
        (try go_wp2_with fail)
        refine hK.out _ _ trivial (fun hHeld=>?_)
        clear hK K
        (first | simp only [pA,pZ,pS] | simp only [pN] | skip)
        have B7:=hidP (B6.out.trans (hb7.mono B6.out.size))
        have e9:=zaa hb7 e8
        clear hb7
        refine wpAnyH_ready (rs:=[13]) (by kernel_rfl) (by simp) (AllReadyH.cons (List.getElem?_toArray.trans rfl) (fun K hK=>?_) AllReadyH.nil)
        go_simp
        (go_at_call 55;(try rw [hwrap]);refine (HG1.out (pre ++ ys) w7 q0 q1 q2 (SXR.out.bel B7.out) (HJJ.out _ _ _ JR.out B7.out) HLE.out HTQ.out).mono ?_;intro e' w8 hpo;obtain ⟨b,rfl,HB1,HB0⟩:=hpo.one;clear hpo)
        (try go_wp2_with fail)
        refine hK.out _ _ trivial (fun hHeld=>?_)
        clear hK K
        (first | simp only [pA,pZ,pS] | simp only [pN] | skip)
        refine tk 14 hHeld ?_
        (try simp only [pA,pZ,pS])
        refine tk 15 hHeld ?_
        (try simp only [pA,pZ,pS])
        refine wpAnyH_done (by kernel_rfl) ?_ _
        refine NoPanic.normal ?_
        clear hwrap HG1 HLE HAG HTQ hHeld e0 e1 e2 e3 v0 v1 v2 e8 e9 d0 d1 d2 d3 u0 u1 u2 x0 hcell hJ
        cases b
        ·have HBX:=hidP (HB0.out rfl)
         clear HB0 HB1
         simp only [Bool.not_false]
         go_wp2_with fail
         go_ret
         exact .inr ⟨rfl,HBX.out⟩
        ·obtain ⟨ys2,hl2,hj2,hk2⟩:=HB1.out rfl
         have HJ2:=hidP hj2
         have HL2:=hidP hl2
         have HK2:=hidP hk2
         clear hj2 hl2 hk2 HB1 HB0
         simp only [Bool.not_true]
         go_wp2_with fail
         go_roundw
         case rel=>exact ⟨j+1,ys ++ ys2,by go_num,by omega,by rw [HST.out,List.map_append,HYS.out,HL2.out],by rw [← List.append_assoc];exact HJ2.out,KR.out.trans ((Kq.of_below B7.out).trans HK2.out)⟩
         case measure=>(simp [intOf];omega)
       ·go_simp
        (go_at_call 60;refine (zaR p0 p1 p2 (some ⟨fb,fo,none⟩) T f Z.wE w6 HTK.out hT3 HFC.out).mono ?_;rintro e' w7 ⟨q0,q1,q2,rfl,HTQ,hb7⟩)
        (try go_wp2_with fail)
        refine hK.out _ _ trivial (fun hHeld=>?_)
        clear hK K
        (first | simp only [pA,pZ,pS] | simp only [pN] | skip)
        have B7:=hidP (B6.out.trans (hb7.mono B6.out.size))
        have e9:=zaa hb7 e8
        clear hb7
        refine wpAnyH_ready (rs:=[5]) (by kernel_rfl) (by simp) (AllReadyH.cons (List.getElem?_toArray.trans rfl) (fun K hK=>?_) AllReadyH.nil)
        go_simp
        refine hK.out _ _ trivial (fun hHeld=>?_)
        clear hK K
        (first | simp only [pA,pZ,pS] | simp only [pN] | skip)
        refine wpAnyH_ready (rs:=[13]) (by kernel_rfl) (by simp) (AllReadyH.cons (List.getElem?_toArray.trans rfl) (fun K hK=>?_) AllReadyH.nil)
        go_simp
        (go_at_call 55;(try rw [hwrap]);refine (HG1.out (pre ++ ys) w7 q0 q1 q2 (SXR.out.bel B7.out) (HJJ.out _ _ _ JR.out B7.out) HLE.out HTQ.out).mono ?_;intro e' w8 hpo;obtain ⟨b,rfl,HB1,HB0⟩:=hpo.one;clear hpo)
        (try go_wp2_with fail)
        refine hK.out _ _ trivial (fun hHeld=>?_)
        clear hK K
        (first | simp only [pA,pZ,pS] | simp only [pN] | skip)
        refine tk 14 hHeld ?_
        (try simp only [pA,pZ,pS])
        refine tk 15 hHeld ?_
        (try simp only [pA,pZ,pS])
        refine wpAnyH_done (by kernel_rfl) ?_ _
        refine NoPanic.normal ?_
        clear hwrap HG1 HLE HAG HTQ hHeld e0 e1 e2 e3 v0 v1 v2 e8 e9 d0 d1 d2 d3 u0 u1 u2 x0 hcell hJ
        cases b
        ·have HBX:=hidP (HB0.out rfl)
         clear HB0 HB1
         simp only [Bool.not_false]
         go_wp2_with fail
         go_ret
         exact .inr ⟨rfl,HBX.out⟩
        ·obtain ⟨ys2,hl2,hj2,hk2⟩:=HB1.out rfl
         have HJ2:=hidP hj2
         have HL2:=hidP hl2
         have HK2:=hidP hk2
         clear hj2 hl2 hk2 HB1 HB0
         simp only [Bool.not_true]
         go_wp2_with fail
         go_roundw
         case rel=>exact ⟨j+1,ys ++ ys2,by go_num,by omega,by rw [HST.out,List.map_append,HYS.out,HL2.out],by rw [← List.append_assoc];exact HJ2.out,KR.out.trans ((Kq.of_below B7.out).trans HK2.out)⟩
         case measure=>(simp [intOf];omega)
     ·go_simp
      refine hK.out _ _ trivial (fun hHeld=>?_)
      clear hK K
      (first | simp only [pA,pZ,pS] | simp only [pN] | skip)
      refine wpAnyH_ready (rs:=[5,8]) (by kernel_rfl) (by simp) (AllReadyH.cons (List.getElem?_toArray.trans rfl) (fun K hK=>?_) (AllReadyH.cons (List.getElem?_toArray.trans rfl) (fun K hK=>?_) AllReadyH.nil))
      ·go_simp
       refine hK.out _ _ trivial (fun hHeld=>?_)
       clear hK K
       (first | simp only [pA,pZ,pS] | simp only [pN] | skip)
       refine wpAnyH_ready (rs:=[8]) (by kernel_rfl) (by simp) (AllReadyH.cons (List.getElem?_toArray.trans rfl) (fun K hK=>?_) AllReadyH.nil)
       go_simp
       refine hK.out _ _ trivial (fun hHeld=>?_)
       clear hK K
       (first | simp only [pA,pZ,pS] | simp only [pN] | skip)
       refine wpAnyH_ready (rs:=[12]) (by kernel_rfl) (by simp) (AllReadyH.cons (List.getElem?_toArray.trans rfl) (fun K hK=>?_) AllReadyH.nil)
       go_simp
       (go_at_call 60;refine (zaR p0 p1 p2 (some ⟨fb,fo,none⟩) T f Z.wE w6 HTK.out hT3 HFC.out).mono ?_;rintro e' w7 ⟨q0,q1,q2,rfl,HTQ,hb7⟩)
       (try go_wp2_with fail)
       refine hK.out _ _ trivial (fun hHeld=>?_)
       clear hK K
       (first | simp only [pA,pZ,pS] | simp only [pN] | skip)
       have B7:=hidP (B6.out.trans (hb7.mono B6.out.size))
       have e9:=zaa hb7 e8
       clear hb7
       refine wpAnyH_ready (rs:=[13]) (by kernel_rfl) (by simp) (AllReadyH.cons (List.getElem?_toArray.trans rfl) (fun K hK=>?_) AllReadyH.nil)
       go_simp
       (go_at_call 55;(try rw [hwrap]);refine (HG1.out (pre ++ ys) w7 q0 q1 q2 (SXR.out.bel B7.out) (HJJ.out _ _ _ JR.out B7.out) HLE.out HTQ.out).mono ?_;intro e' w8 hpo;obtain ⟨b,rfl,HB1,HB0⟩:=hpo.one;clear hpo)
       (try go_wp2_with fail)
       refine hK.out _ _ trivial (fun hHeld=>?_)
       clear hK K
       (first | simp only [pA,pZ,pS] | simp only [pN] | skip)
       refine tk 14 hHeld ?_
       (try simp only [pA,pZ,pS])
       refine tk 15 hHeld ?_
       (try simp only [pA,pZ,pS])
       refine wpAnyH_done (by kernel_rfl) ?_ _
       refine NoPanic.normal ?_
       clear hwrap HG1 HLE HAG HTQ hHeld e0 e1 e2 e3 v0 v1 v2 e8 e9 d0 d1 d2 d3 u0 u1 u2 x0 hcell hJ
       cases b
       ·have HBX:=hidP (HB0.out rfl)
        clear HB0 HB1
        simp only [Bool.not_false]
        go_wp2_with fail
        go_ret
        exact .inr ⟨rfl,HBX.out⟩
       ·obtain ⟨ys2,hl2,hj2,hk2⟩:=HB1.out rfl
        have HJ2:=hidP hj2
        have HL2:=hidP hl2
        have HK2:=hidP hk2
        clear hj2 hl2 hk2 HB1 HB0
        simp only [Bool.not_true]
        go_wp2_with fail
        go_roundw
        case rel=>exact ⟨j+1,ys ++ ys2,by go_num,by omega,by rw [HST.out,List.map_append,HYS.out,HL2.out],by rw [← List.append_assoc];exact HJ2.out,KR.out.trans ((Kq.of_below B7.out).trans HK2.out)⟩
        case measure=>(simp [intOf];omega)
      ·go_simp
       refine hK.out _ _ trivial (fun hHeld=>?_)
       clear hK K
       (first | simp only [pA,pZ,pS] | simp only [pN] | skip)
       refine wpAnyH_ready (rs:=[5,12]) (by kernel_rfl) (by simp) (AllReadyH.cons (List.getElem?_toArray.trans rfl) (fun K hK=>?_) (AllReadyH.cons (List.getElem?_toArray.trans rfl) (fun K hK=>?_) AllReadyH.nil))
       ·go_simp
        refine hK.out _ _ trivial (fun hHeld=>?_)
        clear hK K
        (first | simp only [pA,pZ,pS] | simp only [pN] | skip)
        refine wpAnyH_ready (rs:=[12]) (by kernel_rfl) (by simp) (AllReadyH.cons (List.getElem?_toArray.trans rfl) (fun K hK=>?_) AllReadyH.nil)
        go_simp
        (go_at_call 60;refine (zaR p0 p1 p2 (some ⟨fb,fo,none⟩) T f Z.wE w6 HTK.out hT3 HFC.out).mono ?_;rintro e' w7 ⟨q0,q1,q2,rfl,HTQ,hb7⟩)
        (try go_wp2_with fail)
        refine hK.out _ _ trivial (fun hHeld=>?_)
        clear hK K
        (first | simp only [pA,pZ,pS] | simp only [pN] | skip)
        have B7:=hidP (B6.out.trans (hb7.mono B6.out.size))
        have e9:=zaa hb7 e8
        clear hb7
        refine wpAnyH_ready (rs:=[13]) (by kernel_rfl) (by simp) (AllReadyH.cons (List.getElem?_toArray.trans rfl) (fun K hK=>?_) AllReadyH.nil)
        go_simp
        (go_at_call 55;(try rw [hwrap]);refine (HG1.out (pre ++ ys) w7 q0 q1 q2 (SXR.out.bel B7.out) (HJJ.out _ _ _ JR.out B7.out) HLE.out HTQ.out).mono ?_;intro e' w8 hpo;obtain ⟨b,rfl,HB1,HB0⟩:=hpo.one;clear hpo)
        (try go_wp2_with fail)
        refine hK.out _ _ trivial (fun hHeld=>?_)
        clear hK K
        (first | simp only [pA,pZ,pS] | simp only [pN] | skip)
        refine tk 14 hHeld ?_
        (try simp only [pA,pZ,pS])
        refine tk 15 hHeld ?_
        (try simp only [pA,pZ,pS])
        refine wpAnyH_done (by kernel_rfl) ?_ _
        refine NoPanic.normal ?_
        clear hwrap HG1 HLE HAG HTQ hHeld e0 e1 e2 e3 v0 v1 v2 e8 e9 d0 d1 d2 d3 u0 u1 u2 x0 hcell hJ
        cases b
        ·have HBX:=hidP (HB0.out rfl)
         clear HB0 HB1
         simp only [Bool.not_false]
         go_wp2_with fail
         go_ret
         exact .inr ⟨rfl,HBX.out⟩
        ·obtain ⟨ys2,hl2,hj2,hk2⟩:=HB1.out rfl
         have HJ2:=hidP hj2
         have HL2:=hidP hl2
         have HK2:=hidP hk2
         clear hj2 hl2 hk2 HB1 HB0
         simp only [Bool.not_true]
         go_wp2_with fail
         go_roundw
         case rel=>exact ⟨j+1,ys ++ ys2,by go_num,by omega,by rw [HST.out,List.map_append,HYS.out,HL2.out],by rw [← List.append_assoc];exact HJ2.out,KR.out.trans ((Kq.of_below B7.out).trans HK2.out)⟩
         case measure=>(simp [intOf];omega)
       ·go_simp
        (go_at_call 60;refine (zaR p0 p1 p2 (some ⟨fb,fo,none⟩) T f Z.wE w6 HTK.out hT3 HFC.out).mono ?_;rintro e' w7 ⟨q0,q1,q2,rfl,HTQ,hb7⟩)
        (try go_wp2_with fail)
        refine hK.out _ _ trivial (fun hHeld=>?_)
        clear hK K
        (first | simp only [pA,pZ,pS] | simp only [pN] | skip)
        have B7:=hidP (B6.out.trans (hb7.mono B6.out.size))
        have e9:=zaa hb7 e8
        clear hb7
        refine wpAnyH_ready (rs:=[5]) (by kernel_rfl) (by simp) (AllReadyH.cons (List.getElem?_toArray.trans rfl) (fun K hK=>?_) AllReadyH.nil)
        go_simp
        refine hK.out _ _ trivial (fun hHeld=>?_)
        clear hK K
        (first | simp only [pA,pZ,pS] | simp only [pN] | skip)
        refine wpAnyH_ready (rs:=[13]) (by kernel_rfl) (by simp) (AllReadyH.cons (List.getElem?_toArray.trans rfl) (fun K hK=>?_) AllReadyH.nil)
        go_simp
        (go_at_call 55;(try rw [hwrap]);refine (HG1.out (pre ++ ys) w7 q0 q1 q2 (SXR.out.bel B7.out) (HJJ.out _ _ _ JR.out B7.out) HLE.out HTQ.out).mono ?_;intro e' w8 hpo;obtain ⟨b,rfl,HB1,HB0⟩:=hpo.one;clear hpo)
        (try go_wp2_with fail)
        refine hK.out _ _ trivial (fun hHeld=>?_)
        clear hK K
        (first | simp only [pA,pZ,pS] | simp only [pN] | skip)
        refine tk 14 hHeld ?_
        (try simp only [pA,pZ,pS])
        refine tk 15 hHeld ?_
        (try simp only [pA,pZ,pS])
        refine wpAnyH_done (by kernel_rfl) ?_ _
        refine NoPanic.normal ?_
        clear hwrap HG1 HLE HAG HTQ hHeld e0 e1 e2 e3 v0 v1 v2 e8 e9 d0 d1 d2 d3 u0 u1 u2 x0 hcell hJ
        cases b
        ·have HBX:=hidP (HB0.out rfl)
         clear HB0 HB1
         simp only [Bool.not_false]
         go_wp2_with fail
         go_ret
         exact .inr ⟨rfl,HBX.out⟩
        ·obtain ⟨ys2,hl2,hj2,hk2⟩:=HB1.out rfl
         have HJ2:=hidP hj2
         have HL2:=hidP hl2
         have HK2:=hidP hk2
         clear hj2 hl2 hk2 HB1 HB0
         simp only [Bool.not_true]
         go_wp2_with fail
         go_roundw
         case rel=>exact ⟨j+1,ys ++ ys2,by go_num,by omega,by rw [HST.out,List.map_append,HYS.out,HL2.out],by rw [← List.append_assoc];exact HJ2.out,KR.out.trans ((Kq.of_below B7.out).trans HK2.out)⟩
         case measure=>(simp [intOf];omega)
  ·have hje:j=fs.length:=by omega
   subst hje
   have hy:¬ (fs.length:Int)<(fs.length:Int):=by omega
   go_wp2_with fail
   go_ret
   exact .inl ⟨rfl,ys,by rw [HYS.out,List.take_length];exact HRR.out.symm,JR.out,(Kq.of_below B3.out).trans KR.out⟩
end Go.Proofs.YtmmdlgjmplddiaaGreat
namespace Go.Proofs.YtmmdlgjmplddiaaGreat
open Go.RowKit Go.Maps
attribute [local go_sem ↓] Go.wp_at_zero Go.wp_at_succ
theorem zmp {α:Type}{l ds:List α}{k:Nat}{c:α} (h:l.drop k=c :: ds):l[k]?=some c∧l.drop (k+1)=ds:=by
 constructor
 ·have:=congrArg (fun x=>x[0]?) h
  simpa using this
 ·rw [← List.drop_drop,h]
  rfl
theorem zoO (k:Nat):((k+1:Nat):Int)=(k:Int)+1:=by simp
theorem zkv (Z:SK) (J Jx:List (TkX Z.wE)→World→Prop) (N:Nat) (hJ:∀ s W W',J s W→Below W.heap.size W W'→J s W')
  (hY:∀ (mm:Nat) (pre:List (TkX Z.wE)) (x:TkX Z.wE) (W1:World),J pre W1→pre.length<N→YieldAt Fence.wide mm Tryz.prog Z.l #[tkv x.1.1] W1 fun e W'=>(e=.returned (.bool true)∧J (pre ++ [x]) W'∧Kq Z.cb Z.w1.heap.size Z.M W1 W')∨(e=.returned (.bool false)∧Jx (pre ++ [x]) W')) :
  ∀ (ds:List Cx) (k:Nat) (T:List F) (p0 p1 p2:Option Addr) (pre:List (TkX Z.wE)) (W:World),(Z.X.take Z.m).drop k=ds→k≤Z.m→SX Z W→TokX Z.wE p0 p1 p2 T→SrOk (ds.map (cnOf Z.fs)) T→J pre W→pre.length+(zcU (ds.map (cnOf Z.fs)) T).length≤N →
   Calls Tryz.prog 55 #[.int .i64 (k:Int),.agg #[.pointer p0,.pointer p1,.pointer p2],.pointer (some ⟨Z.pb,0,none⟩),.pointer (some ⟨Z.yb,0,none⟩),.pointer (some ⟨Z.sb,0,none⟩),.pointer (some ⟨Z.xb,0,none⟩)] W (SPost Z J Jx pre (zcU (ds.map (cnOf Z.fs)) T) W):=by
 intro ds
 induction ds with
 | nil=>
  intro k T p0 p1 p2 pre W hds hkm hSX hTK hSO hJ0 hN
  have hke:k=Z.m:=by
   have h1:=congrArg List.length hds
   rw [List.length_drop,List.length_take] at h1
   have h2:=Z.hm
   simp at h1
   omega
  subst hke
  exact zkJ Z J Jx N hJ hY T p0 p1 p2 hTK pre W hSX hJ0 (by simp [zcU] at hN;omega)
 | cons c ds ih=>
  intro k T p0 p1 p2 pre W hds hkm hSX hTK hSO hJ0 hN
  obtain ⟨hc',hds'⟩:=zmp hds
  have hkl:k<Z.m:=by
   have h1:=(List.getElem?_eq_some_iff.1 hc').1
   rw [List.length_take] at h1
   omega
  have hc:Z.X[k]?=some c:=by
   rw [List.getElem?_take,if_pos hkl] at hc'
   exact hc'
  rw [List.map_cons] at hSO hN
  obtain ⟨hat,hlt,hfit,hrest⟩:=hSO
  cases hneg:c.cp.neg with
  | true=>
   have hn':(cnOf Z.fs c).neg=true:=hneg
   rw [if_pos hn'] at hrest
   rw [List.map_cons,zhO hn']
   rw [zhO hn'] at hN
   refine zkB Z J Jx hJ c k hc hkl T p0 p1 p2 pre W hSX hTK hfit hJ0 hneg (zcU (ds.map (cnOf Z.fs)) T) _ (fun h=>?_) (fun h=>?_) (fun h W' hS' hJ'=>?_)
   ·rw [if_pos (show (cnOf Z.fs c).facts.any (fun f=>(cnOf Z.fs c).tests.all (zaK T f))=true from h)]
   ·rw [if_neg (show ¬ (cnOf Z.fs c).facts.any (fun f=>(cnOf Z.fs c).tests.all (zaK T f))=true from by rw [show (cnOf Z.fs c).facts.any (fun f=>(cnOf Z.fs c).tests.all (zaK T f))=false from h];simp)]
   ·have hx:=ih (k+1) T p0 p1 p2 pre W' hds' (by omega) hS' hTK hrest hJ' (by rw [if_neg (show ¬ (cnOf Z.fs c).facts.any (fun f=>(cnOf Z.fs c).tests.all (zaK T f))=true from by rw [show (cnOf Z.fs c).facts.any (fun f=>(cnOf Z.fs c).tests.all (zaK T f))=false from h];simp)] at hN;exact hN)
    rw [zoO] at hx
    exact hx
  | false=>
   have hn':(cnOf Z.fs c).neg=false:=hneg
   rw [if_neg (by rw [hn'];simp)] at hrest
   rw [List.map_cons,zhG hn']
   rw [zhG hn'] at hN
   refine zko Z J Jx hJ c k hc hkl T p0 p1 p2 pre W hSX hTK hfit hJ0 hneg hat (hlt hn') N _ (fun f=>if c.cp.tests.all (zaK T f)=true then zcU (ds.map (cnOf Z.fs)) (T ++ [f]) else []) rfl hN (fun f _ h=>?_) (fun f hf h pre' W' q0 q1 q2 hS' hJ' hb hT'=>?_)
   ·simp [h]
   ·simp only [if_pos h] at hb ⊢
    have hx:=ih (k+1) (T ++ [f]) q0 q1 q2 pre' W' hds' (by omega) hS' hT' (hrest f hf h) hJ' hb
    rw [zoO] at hx
    exact hx
theorem zhg {P:Program} (w:World) (a:Addr) (m:Mode) (fn:Fn) (x y:Array Value):(store a (.func fn x y) m).run P w=stored P w a (.func fn x y) m:=run_store P w a _ m rfl
theorem zne {P:World→Prop}{w:World}{b:Nat}{t:TypeId}{x0 y0:Value} (h0:w.heap[b]?=some (.cells #[x0] t (0,0))) (h:∀ wt,wt.heap[b]?=some (.cells #[y0] t (0,0))→Turned w wt b→P wt):P (w.setCell ⟨b,0,none⟩ y0):=by
 have h1:=zaf (i:=0) h0 y0
 exact h _ (by simpa using h1) (Turned.setCells [y0] 0 w b)
theorem zpx (k:Nat):Fence.wide.room k:=room_wide k
theorem YieldAt.wideDepth {m:Nat} (m':Nat) {P:Program}{l:Nat}{args:Array Value}{W:World}{R:Ending→World→Prop} (h:YieldAt Fence.wide m P l args W R):YieldAt Fence.wide m' P l args W R:=by
 obtain ⟨fn,tmps,assign,body,hy,hR⟩:=h
 exact ⟨fn,tmps,assign,body,hy,hR.1,fun c cs _=>hR.2 c cs (zpx _)⟩
theorem zj5 {α:Type}{J:List α→World→Prop}{B:Nat} (h:AbidesFrom B J):∀ s W W',J s W→Below W.heap.size W W'→J s W':=fun s W W' hs hb=>
 h s W W' none hs ⟨hb.os,hb.tape,hb.output,hb.size,fun k hk _=>hb.block k hk⟩ (fun r e=>by cases e)
set_option maxRecDepth 100000 in
set_option maxHeartbeats 3200000 in
theorem zii (Z:SK) (J Jx:List (TkX Z.wE)→World→Prop) (hJ:∀ s W W',J s W→Below W.heap.size W W'→J s W') (W:World) (hlk:Lko Z.wE.heap.size Z.B Z.w1 W)
  (hpl:W.heap[Z.pb]?=some (.cells #[.slice Z.ca Z.m Z.cc,Z.vv] 71 (0,0))) (hsd:W.heap[Z.sb]?=some (.cells #[.int .i64 (-1),.pointer none] 77 (0,0))) (hyb:Z.yb=W.heap.size) (hxb:Z.xb=W.heap.size+1) (hso:SrOk ((Z.X.take Z.m).map (cnOf Z.fs)) [])
  (hY:∀ (mm:Nat) (pre:List (TkX Z.wE)) (x:TkX Z.wE) (W1:World),J pre W1→pre.length<(zcU ((Z.X.take Z.m).map (cnOf Z.fs)) []).length→YieldAt Fence.wide mm Tryz.prog Z.l #[tkv x.1.1] W1 fun e W'=>(e=.returned (.bool true)∧J (pre ++ [x]) W'∧Kq Z.cb Z.w1.heap.size Z.M W1 W')∨(e=.returned (.bool false)∧Jx (pre ++ [x]) W')) (h0:J [] W) :
  Calls Tryz.prog 54 #[.func (.yield Z.l) #[] #[],.pointer (some ⟨Z.pb,0,none⟩),.pointer (some ⟨Z.sb,0,none⟩)] W fun e W'=>(∃ v,e=.returned v)∧((∃ xs:List (TkX Z.wE),xs.map tkT=zcU ((Z.X.take Z.m).map (cnOf Z.fs)) []∧J xs W')∨(∃ pre,True∧Jx pre W')):=by
 have hmf:=hmfP
 go_enter Tryz.func54,Tryz.ntmps54
 go_upto_region 2 with fail
 refine lift2P ?_
 intro w1 hW1 hr1 hr2
 rw [← hyb] at hr1 ⊢
 rw [← hxb] at hr2
 rw [show Z.yb+1=Z.xb by omega]
 have hyx:Z.yb<Z.xb:=by omega
 have hwy:W.heap.size≤Z.yb:=by omega
 clear hyb hxb
 have hsf:=@zhg Tryz.prog
 have k0:=cell1P hr2
 have k1:w1.frozen? ⟨Z.xb,0,none⟩=false:=by simp [World.frozen?,hr2]
 go_upto_region 3 with fail
 refine zne hr2 ?_
 intro w2 hq2 ht2
 have hW2:Below W.heap.size W w2:=hW1.trans (ht2.below (by omega))
 have hq1:=(ht2.block Z.yb (by omega)).trans hr1
 clear k0 k1 hr1 hr2 ht2 hW1 hsf
 have SX2:=hidP (show SX Z w2 from ⟨hlk.trans (Lko.of_below hW2),(hW2.block _ (zab hpl)).trans hpl,hq1,(hW2.block _ (zab hsd)).trans hsd,hq2⟩)
 have x0:=cell1P hq2
 have HS:=hidP (zkv Z J Jx _ hJ hY (Z.X.take Z.m) 0 [] none none none [] w2 (by simp) (Nat.zero_le _) SX2.out ⟨fun i f hi=>by simp at hi,fun _=>rfl,fun _=>rfl,fun _=>rfl,by simp⟩ hso (hJ _ _ _ h0 hW2) (by simp))
 clear hW2 hq1 hq2 hpl hsd hlk
 go_wp2_with fail
 refine HS.out.mono ?_
 rintro e w3 (⟨rfl,ys,hl,hj,_⟩ | ⟨rfl,q,hq⟩)
 ·go_wp2_with fail
  go_end0
  exact ⟨⟨_,rfl⟩,.inl ⟨ys,hl,by simpa using hj⟩⟩
 ·go_wp2_with fail
  go_end0
  exact ⟨⟨_,rfl⟩,.inr ⟨q,trivial,hq⟩⟩
set_option maxHeartbeats 1600000 in
theorem zi3 (v0 v1:Value) (a0 a1:Option Addr) (n0 c0 n1 c1:Nat) (h0:v0=.slice a0 n0 c0) (h1:v1=.slice a1 n1 c1) (w:World) :
  Calls Tryz.prog 22 #[.agg #[v0,v1],.agg #[.int .i64 (-1),.pointer none]] w fun e w'=>e=.returned (.func (.func 54) #[] #[.pointer (some ⟨w.heap.size,0,none⟩),.pointer (some ⟨w.heap.size+1,0,none⟩)])∧Hid (w'.heap[w.heap.size]?=some (.cells #[v0,v1] 71 (0,0)))∧Hid (w'.heap[w.heap.size+1]?=some (.cells #[.int .i64 (-1),.pointer none] 77 (0,0)))∧Below w.heap.size w w':=by
 subst h0 h1
 have hmf:=hmfP
 go_enter Tryz.func22,Tryz.ntmps22
 go_upto_region 1 with fail
 refine lift2P ?_
 intro w2 hW2 hq1 hq2
 have B2:=hidP hW2
 have Q1:=hidP hq1
 have Q2:=hidP hq2
 clear hW2 hq1 hq2
 go_wp2_with fail
 go_ret
 exact ⟨rfl,Q1,Q2,B2.out⟩
set_option maxHeartbeats 1600000 in
theorem zkN (w:World):Calls Tryz.prog 23 #[] w fun e w'=>e=.returned (.agg #[.int .i64 (-1),.pointer none])∧Below w.heap.size w w':=by
 go_enter Tryz.func23,Tryz.ntmps23
 go_wp2_with fail
 refine bodyPost_ret (v:=.agg #[.int .i64 (-1),.pointer none]) (by simp [results,Tryz.results23,go_sem]) rfl ⟨rfl,?_⟩
 first
 | exact (Below.refl _ _).alloc (Nat.le_refl _) _
 | exact (((Below.refl _ _).alloc (Nat.le_refl _) _).setCell (by simp) _).setCell (by simp) _
end Go.Proofs.YtmmdlgjmplddiaaGreat
namespace Go.Proofs.YtmmdlgjmplddiaaGreat
open Go.RowKit Go.Maps
attribute [local go_sem ↓] Go.wp_at_zero Go.wp_at_succ
theorem zeros3:madeCells #[.int .i64 0] 3=#[.int .i64 0,.int .i64 0,.int .i64 0]:=by kernel_rfl
theorem mk03 (w:World):(Instr.makeSlice 39 (.int .i64 0) (.int .i64 3)).run Tryz.prog w=.ok (.slice (some ⟨w.heap.size,0,none⟩) 0 3) (w.alloc (.cells #[.int .i64 0,.int .i64 0,.int .i64 0] 3)):=by
 obtain ⟨i,hi,hz0,hz1,hz2⟩:=info_parts zev
 have hr:=run_make (P:=Tryz.prog) w 39 3 i _ Tryz.underlying39 hi hz0 .i64 .i64 0 3 (by omega) (by omega) (by rw [hz2];omega) (by omega)
 rw [hr,hz1]
 exact congrArg (fun c=>Result.ok (Value.slice (some ⟨w.heap.size,0,none⟩) 0 3) (w.alloc (.cells c 3))) zeros3
theorem own03 {w:World}{base g:Nat} (h:w.heap[g]?=some (.cells #[.int .i64 0,.int .i64 0,.int .i64 0] 3 (0,0))) (hb:base≤g):w.ownsRow base 3 1 (.slice (some ⟨g,0,none⟩) 0 3) 0 (icells []):=
 ⟨rfl,.inr ⟨g,3,_,rfl,hb,h,by omega,by unfold maxLen;omega,rfl,rfl⟩⟩
theorem ziV {T:List F}{k:Nat}{f:F} (h:T[k]?=some f):(T.take (k+1)).map (·.tag)=(T.take k).map (·.tag) ++ [f.tag]:=by
 rw [List.take_add_one,h]
 simp
theorem ix3 (x0 x1 x2:Value) (w:World):(Instr.index 80 (.agg #[x0,x1,x2]) (.int .i64 0)).run Tryz.prog w=.ok x0 w∧(Instr.index 80 (.agg #[x0,x1,x2]) (.int .i64 1)).run Tryz.prog w=.ok x1 w∧(Instr.index 80 (.agg #[x0,x1,x2]) (.int .i64 2)).run Tryz.prog w=.ok x2 w:=⟨by kernel_rfl,by kernel_rfl,by kernel_rfl⟩
def znQ (xs:List Int) (w:World) (e:Ending) (w':World):Prop:=(∃ a c,e=.returned (.slice a xs.length c)∧w'.ownsRow w.heap.size 3 1 (.slice a xs.length c) xs.length (icells xs))∧Below w.heap.size w w'
set_option maxRecDepth 100000 in
set_option maxHeartbeats 6400000 in
theorem ziY (p0 p1 p2:Option Addr) (T:List F) (w:World) (hT:TokX w p0 p1 p2 T) :
  Calls Tryz.prog 24 #[.agg #[.pointer p0,.pointer p1,.pointer p2]] w (znQ (T.map (·.tag)) w):=by
 have HT:=hidP hT
 have hl3:=hT.le
 have hmk:=mk03
 clear hT
 go_enter Tryz.func24,Tryz.ntmps24
 go_upto_region 2 with fail
 refine lift2P ?_
 intro w1 hW1 hq0 hq1
 obtain ⟨t0,t1,t2⟩:=cells3P hq0
 have H1:=hidP hW1
 have O1:=hidP (own03 (base:=w.heap.size) hq1 (Nat.le_succ _))
 clear hW1 hq0 hq1 hmk
 go_wp2_with fail
 clear t0 t1 t2
 go_loopw [8,3] (fun iv sv wr=>∃ (k:Nat) (ki:Int) (a:Option Addr) (c:Nat),iv=.int .i64 ki∧ki=(k:Int)∧k≤3∧sv=.slice a ((T.take k).map (·.tag)).length c∧wr.ownsRow w.heap.size 3 1 (.slice a ((T.take k).map (·.tag)).length c) ((T.take k).map (·.tag)).length (icells ((T.take k).map (·.tag)))∧Below w.heap.size w wr) (fun iv _ _=>3 - (intOf iv).toNat)
 case atStart=>exact ⟨0,0,_,3,rfl,rfl,Nat.zero_le _,rfl,O1.out,H1.out⟩
 case round=>
  obtain ⟨k,ki,a,c,rfl,hki,hkl,rfl,hrow,hb⟩:=hrel
  have ROW:=hidP hrow
  have BR:=hidP hb
  have TR:=hidP (HT.out.tok.below hb)
  have hsr:=hb.size
  have hln:((T.take k).map (·.tag)).length≤3:=by rw [List.length_map,List.length_take];omega
  have HWR:=hidP (fun o'=>(Below.refl _ _).alloc (Nat.le_refl _) o':∀ o',Below wr.heap.size wr (wr.alloc o'))
  clear hrow hb
  rcases (show k=0∨k=1∨k=2∨k=3 by omega) with rfl | rfl | rfl | rfl
  ·obtain rfl:ki=0:=by omega
   clear hki
   by_cases hk:0<T.length
   ·obtain ⟨f,hf⟩:∃ f,T[0]?=some f:=⟨T[0],by simp [hk]⟩
    obtain ⟨pv,hp,hfac⟩:=TR.out 0 f hf
    simp at hp
    subst hp
    obtain ⟨fb,fo,he,c0,_⟩:=hfac
    injection he with he
    subst he
    have HTK:=hidP (ziV hf)
    obtain ⟨n,hn⟩:∃ n,n=((T.take 0).map (·.tag)).length:=⟨_,rfl⟩
    obtain ⟨xs,hxs⟩:∃ xs,xs=(T.take 0).map (·.tag):=⟨_,rfl⟩
    rw [← hxs] at ROW hln hn HTK ⊢
    rw [← hn] at ROW hln ⊢
    have HN:=hidP hn
    clear hf hk hn hxs TR
    obtain ⟨j0,j1,j2⟩:(∀ w,_)∧(∀ w,_)∧(∀ w,_):=⟨fun w=>(ix3 (.pointer (some ⟨fb,fo,none⟩)) (.pointer p1) (.pointer p2) w).1,fun w=>(ix3 (.pointer (some ⟨fb,fo,none⟩)) (.pointer p1) (.pointer p2) w).2.1,fun w=>(ix3 (.pointer (some ⟨fb,fo,none⟩)) (.pointer p1) (.pointer p2) w).2.2⟩
    go_wp2_with (first | (at_builtin;refine zad (by rfl) (.tmp 13) (.tmp 18) 39 (by rfl) w.heap.size 3 _ 1 8 Tryz.underlying39 zev (by rfl) (by omega) _ n _ (by rfl) (zag ROW.out (HWR.out _)) (some ⟨_,0,none⟩) 1 1 (by rfl) [.int .i64 f.tag] (by rfl) (fun e=>by cases e) (zav _ _ _ _ (by simp)) (by intro u hu;simp at hu;subst hu;rfl) (by unfold maxLen;omega) (by omega) (by simp;omega) ?_;intro a2 c2 w7 ho2 hg2 hl2) | fail)
    have T7:=hidP (show w7.ownsRow w.heap.size 3 1 (.slice a2 (n+1) c2) (n+1) (icells (xs ++ [f.tag])) by have:=ho2.out;rw [zfm];simpa using this)
    have B7:=hidP ((BR.out.trans ((HWR.out _).mono BR.out.size)).grown hg2.out (by simp;omega) (fun g hg=>(ROW.out.lt g hg).1))
    clear ho2 hg2 hl2
    go_roundw
    case rel=>exact ⟨1,1,a2,c2,by go_num,rfl,by omega,by rw [HTK.out,List.length_append,← HN.out];rfl,by rw [HTK.out,List.length_append,← HN.out];exact T7.out,B7.out⟩
    case measure=>(simp [intOf])
   ·have hz:=HT.out.z0 (by omega)
    subst hz
    have HTK:=hidP (show T.take (0+1)=T.take 0 by rw [List.take_of_length_le (by omega),List.take_of_length_le (by omega)])
    obtain ⟨j0,j1,j2⟩:(∀ w,_)∧(∀ w,_)∧(∀ w,_):=⟨fun w=>(ix3 (.pointer none) (.pointer p1) (.pointer p2) w).1,fun w=>(ix3 (.pointer none) (.pointer p1) (.pointer p2) w).2.1,fun w=>(ix3 (.pointer none) (.pointer p1) (.pointer p2) w).2.2⟩
    go_wp2_with fail
    go_roundw
    case rel=>exact ⟨1,1,a,c,by go_num,rfl,by omega,by rw [HTK.out],by rw [HTK.out];exact ROW.out,BR.out⟩
    case measure=>(simp [intOf])
  ·obtain rfl:ki=1:=by omega
   clear hki
   by_cases hk:1<T.length
   ·obtain ⟨f,hf⟩:∃ f,T[1]?=some f:=⟨T[1],by simp [hk]⟩
    obtain ⟨pv,hp,hfac⟩:=TR.out 1 f hf
    simp at hp
    subst hp
    obtain ⟨fb,fo,he,c0,_⟩:=hfac
    injection he with he
    subst he
    have HTK:=hidP (ziV hf)
    obtain ⟨n,hn⟩:∃ n,n=((T.take 1).map (·.tag)).length:=⟨_,rfl⟩
    obtain ⟨xs,hxs⟩:∃ xs,xs=(T.take 1).map (·.tag):=⟨_,rfl⟩
    rw [← hxs] at ROW hln hn HTK ⊢
    rw [← hn] at ROW hln ⊢
    have HN:=hidP hn
    clear hf hk hn hxs TR
    obtain ⟨j0,j1,j2⟩:(∀ w,_)∧(∀ w,_)∧(∀ w,_):=⟨fun w=>(ix3 (.pointer p0) (.pointer (some ⟨fb,fo,none⟩)) (.pointer p2) w).1,fun w=>(ix3 (.pointer p0) (.pointer (some ⟨fb,fo,none⟩)) (.pointer p2) w).2.1,fun w=>(ix3 (.pointer p0) (.pointer (some ⟨fb,fo,none⟩)) (.pointer p2) w).2.2⟩
    go_wp2_with (first | (at_builtin;refine zad (by rfl) (.tmp 13) (.tmp 18) 39 (by rfl) w.heap.size 3 _ 1 8 Tryz.underlying39 zev (by rfl) (by omega) _ n _ (by rfl) (zag ROW.out (HWR.out _)) (some ⟨_,0,none⟩) 1 1 (by rfl) [.int .i64 f.tag] (by rfl) (fun e=>by cases e) (zav _ _ _ _ (by simp)) (by intro u hu;simp at hu;subst hu;rfl) (by unfold maxLen;omega) (by omega) (by simp;omega) ?_;intro a2 c2 w7 ho2 hg2 hl2) | fail)
    have T7:=hidP (show w7.ownsRow w.heap.size 3 1 (.slice a2 (n+1) c2) (n+1) (icells (xs ++ [f.tag])) by have:=ho2.out;rw [zfm];simpa using this)
    have B7:=hidP ((BR.out.trans ((HWR.out _).mono BR.out.size)).grown hg2.out (by simp;omega) (fun g hg=>(ROW.out.lt g hg).1))
    clear ho2 hg2 hl2
    go_roundw
    case rel=>exact ⟨2,2,a2,c2,by go_num,rfl,by omega,by rw [HTK.out,List.length_append,← HN.out];rfl,by rw [HTK.out,List.length_append,← HN.out];exact T7.out,B7.out⟩
    case measure=>(simp [intOf])
   ·have hz:=HT.out.z1 (by omega)
    subst hz
    have HTK:=hidP (show T.take (1+1)=T.take 1 by rw [List.take_of_length_le (by omega),List.take_of_length_le (by omega)])
    obtain ⟨j0,j1,j2⟩:(∀ w,_)∧(∀ w,_)∧(∀ w,_):=⟨fun w=>(ix3 (.pointer p0) (.pointer none) (.pointer p2) w).1,fun w=>(ix3 (.pointer p0) (.pointer none) (.pointer p2) w).2.1,fun w=>(ix3 (.pointer p0) (.pointer none) (.pointer p2) w).2.2⟩
    go_wp2_with fail
    go_roundw
    case rel=>exact ⟨2,2,a,c,by go_num,rfl,by omega,by rw [HTK.out],by rw [HTK.out];exact ROW.out,BR.out⟩
    case measure=>(simp [intOf])
  ·obtain rfl:ki=2:=by omega
   clear hki
   by_cases hk:2<T.length
   ·obtain ⟨f,hf⟩:∃ f,T[2]?=some f:=⟨T[2],by simp [hk]⟩
    obtain ⟨pv,hp,hfac⟩:=TR.out 2 f hf
    simp at hp
    subst hp
    obtain ⟨fb,fo,he,c0,_⟩:=hfac
    injection he with he
    subst he
    have HTK:=hidP (ziV hf)
    obtain ⟨n,hn⟩:∃ n,n=((T.take 2).map (·.tag)).length:=⟨_,rfl⟩
    obtain ⟨xs,hxs⟩:∃ xs,xs=(T.take 2).map (·.tag):=⟨_,rfl⟩
    rw [← hxs] at ROW hln hn HTK ⊢
    rw [← hn] at ROW hln ⊢
    have HN:=hidP hn
    clear hf hk hn hxs TR
    obtain ⟨j0,j1,j2⟩:(∀ w,_)∧(∀ w,_)∧(∀ w,_):=⟨fun w=>(ix3 (.pointer p0) (.pointer p1) (.pointer (some ⟨fb,fo,none⟩)) w).1,fun w=>(ix3 (.pointer p0) (.pointer p1) (.pointer (some ⟨fb,fo,none⟩)) w).2.1,fun w=>(ix3 (.pointer p0) (.pointer p1) (.pointer (some ⟨fb,fo,none⟩)) w).2.2⟩
    go_wp2_with (first | (at_builtin;refine zad (by rfl) (.tmp 13) (.tmp 18) 39 (by rfl) w.heap.size 3 _ 1 8 Tryz.underlying39 zev (by rfl) (by omega) _ n _ (by rfl) (zag ROW.out (HWR.out _)) (some ⟨_,0,none⟩) 1 1 (by rfl) [.int .i64 f.tag] (by rfl) (fun e=>by cases e) (zav _ _ _ _ (by simp)) (by intro u hu;simp at hu;subst hu;rfl) (by unfold maxLen;omega) (by omega) (by simp;omega) ?_;intro a2 c2 w7 ho2 hg2 hl2) | fail)
    have T7:=hidP (show w7.ownsRow w.heap.size 3 1 (.slice a2 (n+1) c2) (n+1) (icells (xs ++ [f.tag])) by have:=ho2.out;rw [zfm];simpa using this)
    have B7:=hidP ((BR.out.trans ((HWR.out _).mono BR.out.size)).grown hg2.out (by simp;omega) (fun g hg=>(ROW.out.lt g hg).1))
    clear ho2 hg2 hl2
    go_roundw
    case rel=>exact ⟨3,3,a2,c2,by go_num,rfl,by omega,by rw [HTK.out,List.length_append,← HN.out];rfl,by rw [HTK.out,List.length_append,← HN.out];exact T7.out,B7.out⟩
    case measure=>(simp [intOf])
   ·have hz:=HT.out.z2 (by omega)
    subst hz
    have HTK:=hidP (show T.take (2+1)=T.take 2 by rw [List.take_of_length_le (by omega),List.take_of_length_le (by omega)])
    obtain ⟨j0,j1,j2⟩:(∀ w,_)∧(∀ w,_)∧(∀ w,_):=⟨fun w=>(ix3 (.pointer p0) (.pointer p1) (.pointer none) w).1,fun w=>(ix3 (.pointer p0) (.pointer p1) (.pointer none) w).2.1,fun w=>(ix3 (.pointer p0) (.pointer p1) (.pointer none) w).2.2⟩
    go_wp2_with fail
    go_roundw
    case rel=>exact ⟨3,3,a,c,by go_num,rfl,by omega,by rw [HTK.out],by rw [HTK.out];exact ROW.out,BR.out⟩
    case measure=>(simp [intOf])
  ·obtain rfl:ki=3:=by omega
   clear hki
   have HE:=hidP (show T.take 3=T from List.take_of_length_le hl3)
   rw [HE.out] at ROW ⊢
   go_wp2_with fail
   go_ret
   exact ⟨⟨a,c,by rw [List.length_map];rfl,ROW.out⟩,BR.out⟩
end Go.Proofs.YtmmdlgjmplddiaaGreat
namespace Go.Proofs.YtmmdlgjmplddiaaGreat
open Go.RowKit
attribute [local go_sem ↓] Go.wp_at_zero Go.wp_at_succ
theorem zns {α β:Type} (g:α→β) {l:List α}{j:Nat}{x:α} (h:l[j]?=some x):(l.take (j+1)).map g=(l.take j).map g ++ [g x]:=by
 rw [List.take_add_one,h]
 simp
set_option maxRecDepth 100000 in
set_option maxHeartbeats 6400000 in
theorem zf4 (rs:List Ru) (fs:List F) (a:Option Addr) (c:Nat) (fa:Option Addr) (fc:Nat) {q:Option Nat} (w:World) (hv:zbR q w a rs) (hf:zaH w fa fs) (hr:ready rs fs=true) :
  Calls Tryz.prog 38 #[.slice a rs.length c,.slice fa fs.length fc] w (zeB (za4 fs 0 rs) w):=by
 have HV:=hidM hv
 have HF:=hidM hf
 have HB:=hidM (fun k=>zcB hr k)
 have HA:=hidM (fun r (h:r∈rs)=>zfp hr h)
 have HS:=hidM (fun r (h:r∈rs)=>zd7 (zbD hr).1 h)
 have hf40:=(zbD hr).2.2
 have hl16:=ziw (zbD hr).1
 clear hv hf hr
 go_enter Tryz.func38,Tryz.ntmps38
 go_wp2_with fail
 go_loopw [14,5] (fun iv sv wr=>∃ (k:Nat) (ia:Option Addr) (ic:Nat) (M:List ItX),iv=.int .i64 (k:Int)∧k≤rs.length∧sv=.slice ia M.length ic∧M.map Prod.fst=za4 fs 0 (rs.take k)∧Iw wr w.heap.size w.heap.size ia ic M∧Below w.heap.size w wr) (fun iv _ _=>rs.length - (intOf iv).toNat)
 case atStart=>exact ⟨0,none,0,[],rfl,Nat.zero_le _,rfl,rfl,Iw.nil _ _ _,Below.refl _ _⟩
 case round=>
  obtain ⟨k,ia,ic,M,rfl,hkl,rfl,hM,hIO,hb⟩:=hrel
  have HM:=hidM hM
  have ROW:=hidM hIO
  have BR:=hidM hb
  have hsr:=hb.size
  clear hM hIO hb
  by_cases hk:k<rs.length
  ·obtain ⟨r,hr⟩:∃ r,rs[k]?=some r:=⟨rs[k],by simp [hk]⟩
   obtain ⟨rb,ro,a_p,c_p,a_e,c_e,a_c,c_c,rfl,_,c0,c1,c2,c3,c4,h_p,_,_,_⟩:=(HV.out.below BR.out).get hr
   have hrm:=List.mem_of_getElem? hr
   obtain ⟨hp6,ht6,_⟩:=HS.out r hrm
   have HLA:=hidM (fun w' (h:Below wr.heap.size wr w')=>zlO r fs a_p c_p a_e c_e a_c c_c fa fc w' (h_p.below h) ((HF.out.below BR.out).below h) hp6 ht6 hf40)
   have HCT:=hidM (zh7 fs hr)
   have HAR:=hidM (HA.out r hrm)
   have z0:(0:Int)≤(k:Int):=by omega
   have z1:(k:Int)<(rs.length:Int):=by omega
   clear hr hrm h_p ht6
   go_upto_region 5 with fail
   refine zaj ?_
   intro w1 hW1 hq1
   obtain ⟨b0,b1,b2,b3,b4⟩:=cells5M hq1
   have H1:=hidM hW1
   have R1:=hidM (ROW.out.bel hW1)
   have B1:=hidM (BR.out.trans (hW1.mono BR.out.size))
   clear hW1 hq1 c0 c1 c2 c3 c4 ROW BR
   go_wp2_with fail
   refine (HLA.out w1 H1.out).mono ?_
   rintro e w2 ⟨⟨pa,pc,P,rfl,hP,hp⟩,hb2⟩
   have PP:=hidM hP
   have HP:=hidM hp
   have R2:=hidM (R1.out.bel hb2)
   have B2:=hidM (B1.out.trans (hb2.mono B1.out.size))
   have hPl:P.length≤64000:=by have:=congrArg List.length hp;rw [List.length_map] at this;rw [this];exact HAR.out.1
   have hMl:M.length≤1024000:=by have:=congrArg List.length HM.out;rw [List.length_map] at this;rw [this];exact (HB.out k).1
   have hs2:=hb2.size
   have hs1:=H1.out.size
   clear hP hp hb2 b0 b1 b2 b3 b4 R1 B1 HLA H1
   go_wp2_with fail
   go_loopw [27,5] (fun iv sv wr=>∃ (j:Nat) (ja:Option Addr) (jc:Nat) (N:List ItX),iv=.int .i64 (j:Int)∧j≤P.length∧sv=.slice ja N.length jc∧N.map Prod.fst=M.map Prod.fst ++ (P.take j).map (fun y=>(⟨(k:Int),y.1.tags⟩:It))∧Iw wr w.heap.size w.heap.size ja jc N∧MO wr w.heap.size w.heap.size pa pc P∧Below w.heap.size w wr) (fun iv _ _=>P.length - (intOf iv).toNat)
   case atStart=>exact ⟨0,ia,ic,M,rfl,Nat.zero_le _,rfl,by simp,R2.out,⟨zan PP.out.row (by omega),fun x hx=>(PP.out.all x hx).lower (by omega)⟩,B2.out⟩
   case round=>
    obtain ⟨j,ja,jc,N,rfl,hjl,rfl,hN,hIO,hMO,hb⟩:=hrel
    have HN:=hidM hN
    have RR:=hidM hIO
    have PR:=hidM hMO
    have BB:=hidM hb
    have hNl:N.length≤1088000:=by have:=congrArg List.length hN;rw [List.length_map,List.length_append,List.length_map,List.length_map,List.length_take] at this;omega
    have hsr2:=hb.size
    clear hN hIO hMO hb
    by_cases hj:j<P.length
    ·obtain ⟨y,hy⟩:∃ y,P[j]?=some y:=⟨P[j],by simp [hj]⟩
     have HMT:=hidM (zns (fun y:PmX=>(⟨(k:Int),y.1.tags⟩:It)) hy)
     obtain ⟨⟨tg,bd⟩,tv,bv⟩:=y
     obtain ⟨lb,rfl,hlb,y0,y1⟩:=PR.out.get hy
     obtain ⟨⟨ta,tc,e1⟩,⟨ba,bc,e2⟩,hot,_⟩:=PR.out.all _ (List.mem_of_getElem? hy)
     simp only at e1 e2 hot y0 y1 HMT
     subst e1 e2
     have OT:=hidM hot
     have z2:(0:Int)≤(j:Int):=by omega
     have z3:(j:Int)<(P.length:Int):=by omega
     clear hy hot
     go_upto_region 9 with fail
     refine zaj ?_
     intro w4 hW4 hq4
     obtain ⟨f0,f1⟩:=cells2M hq4
     have R4:=hidM (RR.out.bel hW4)
     have P4:=hidM (PR.out.bel hW4)
     have B4:=hidM (BB.out.trans (hW4.mono BB.out.size))
     have OT4:=hidM (zag OT.out hW4)
     have NX:=hidM (show ItP w4 w.heap.size (⟨(k:Int),tg⟩,.slice ta tg.length tc) from ⟨⟨ta,tc,rfl⟩,OT4.out⟩)
     have HW4:=hidM (fun o'=>(Below.refl _ _).alloc (Nat.le_refl _) o':∀ o',Below w4.heap.size w4 (w4.alloc o'))
     have hs4:=hW4.size
     clear hW4 hq4 y0 y1 OT OT4 RR PR BB
     go_wp2_with (first | (at_builtin;refine zad (by rfl) (.tmp 31) (.tmp 36) 29 (by rfl) w.heap.size 46 _ 2 32 Tryz.underlying29 zhb (by rfl) (by omega) _ N.length _ (by rfl) (zag R4.out.row (HW4.out _)) (some ⟨_,0,none⟩) 1 1 (by rfl) (zbr (⟨(k:Int),tg⟩,.slice ta tg.length tc)) (by rfl) (fun e=>by cases e) (zav _ _ _ _ (by simp)) (zjj NX.out) (by unfold maxLen;omega) (by omega) (by simp;omega) ?_;intro a3 c3 w8 ho3 hg3 hl3) | fail)
     have R8:=hidM (Iw.snoc (R4.out.bel (HW4.out _)) (NX.out.bel (HW4.out _)) ho3.out hg3.out)
     have TY:=hidM (fun o g hg=>zai (zag R4.out.row (HW4.out o)) (k:=g) hg)
     have P8:=hidM (show MO w8 w.heap.size w.heap.size (some ⟨lb,0,none⟩) pc P from ⟨zbh (zag P4.out.row (HW4.out _)) hg3.out (TY.out _) (by decide),fun x hx=>((P4.out.all x hx).bel (HW4.out _)).grown hg3.out (TY.out _) (by decide) (by decide)⟩)
     have B8:=hidM ((B4.out.trans ((HW4.out _).mono B4.out.size)).grown hg3.out (by simp;omega) (fun g hg=>(R4.out.row.lt g hg).1))
     clear ho3 hg3 hl3 TY
     go_roundw
     case rel=>exact ⟨j+1,a3,c3,_,by go_num,by omega,by simp,by rw [List.map_append,HN.out,HMT.out,← List.append_assoc];rfl,R8.out,P8.out,B8.out⟩
     case measure=>(simp [intOf];omega)
    ·have hje:j=P.length:=by omega
     have hy:¬ (j:Int)<(P.length:Int):=by omega
     have HN2:=hidM (show N.map Prod.fst=za4 fs 0 (rs.take (k+1)) by
      rw [HN.out,HM.out,HCT.out,hje,List.take_length,← HP.out,List.map_map]
      rfl)
     clear hje
     go_wp2_with fail
     go_roundw
     case rel=>exact ⟨k+1,ja,jc,N,by go_num,by omega,rfl,HN2.out,RR.out,BB.out⟩
     case measure=>(simp [intOf];omega)
  ·have hke:k=rs.length:=by omega
   have hy:¬ (k:Int)<(rs.length:Int):=by omega
   have HM2:=hidM (show za4 fs 0 rs=M.map Prod.fst by rw [HM.out,hke,List.take_length])
   clear hke
   go_wp2_with fail
   go_ret
   exact zeB.mk HM2.out ROW.out BR.out
end Go.Proofs.YtmmdlgjmplddiaaGreat
namespace Go.Proofs.YtmmdlgjmplddiaaGreat
open Go.RowKit
attribute [local go_sem ↓] Go.wp_at_zero Go.wp_at_succ
set_option maxHeartbeats 1600000 in
theorem ziR (rs:List Ru) (fs:List F) (a:Option Addr) (c:Nat) (fa:Option Addr) (fc:Nat) {q:Option Nat} (w:World) (hv:zbR q w a rs) (hc:rs.length≤c) (hle:zbu Ru.le 1048576 rs) (ho:∀ x∈rs,zdF x.exprs) (hf:zaH w fa fs) (hl:fs.length≤1048576) (hs:∀ f∈fs,Sized f) (hr:ready rs fs=true) :
  Calls Tryz.prog 27 #[.slice a rs.length c,.slice fa fs.length fc] w fun e w'=>e=.returned (.bool true)∧Below w.heap.size w w':=by
 have HC:=hidM (zd0 rs a c w hv hc hle ho (zbD hr).1)
 have HF:=hidM hf
 have HS:=hidM hs
 have HR:=hidM (zbD hr).2.1
 clear hf hs hle ho hv hr
 go_enter Tryz.func27,Tryz.ntmps27
 go_wp2_with fail
 refine HC.out.mono ?_
 rintro e w1 ⟨rfl,hb1⟩
 have HG:=hidM (zbX fa fc fs w1 (HF.out.below hb1) hl HS.out)
 rw [HR.out] at HG
 have B1:=hidM hb1
 clear HC hb1
 go_wp2_with fail
 refine HG.out.mono ?_
 rintro e w2 ⟨rfl,hb2⟩
 have B2:=hidM (B1.out.trans (hb2.mono B1.out.size))
 clear HG hb2
 go_wp2_with fail
 go_ret
 exact ⟨rfl,B2.out⟩
set_option maxHeartbeats 1600000 in
theorem zgY (rs:List Ru) (fs:List F) (a:Option Addr) (c:Nat) (fa:Option Addr) (fc:Nat) {q:Option Nat} (w:World) (hv:zbR q w a rs) (hc:rs.length≤c) (hle:zbu Ru.le 1048576 rs) (ho:∀ x∈rs,zdF x.exprs) (hf:zaH w fa fs) (hl:fs.length≤1048576) (hs:∀ f∈fs,Sized f) (hrd:ready rs fs=true) :
  Calls Tryz.prog 15 #[.slice a rs.length c,.slice fa fs.length fc] w (zeB (zet rs fs) w):=by
 have HR:=hidM (ziR rs fs a c fa fc w hv hc hle ho hf hl hs hrd)
 have HC:=hidM (fun w' (h:Below w.heap.size w w')=>zf4 rs fs a c fa fc w' (hv.below h) (hf.below h) hrd)
 have HE:=hidM (show zet rs fs=za4 fs 0 rs from if_pos hrd)
 clear hv hf hle ho hs hrd
 go_enter Tryz.func15,Tryz.ntmps15
 go_wp2_with fail
 refine HR.out.mono ?_
 rintro e w1 ⟨rfl,hb1⟩
 have B1:=hidM hb1
 clear hb1 HR
 go_wp2_with fail
 refine (HC.out w1 B1.out).mono ?_
 rintro e w2 ⟨⟨a2,c2,M2,rfl,hi,hm⟩,hb2⟩
 have B2:=hidM (B1.out.trans (hb2.mono B1.out.size))
 have HI:=hidM (hi.lower B1.out.size B1.out.size)
 have HM:=hidM (show zet rs fs=M2.map Prod.fst by rw [HE.out,hm])
 clear hi hm hb2 HC
 go_wp2_with fail
 go_ret
 exact zeB.mk HM.out HI.out B2.out
set_option maxRecDepth 100000 in
set_option maxHeartbeats 3200000 in
theorem zjg (rs:List Ru) (a:Option Addr) (c:Nat) (x y:In) (ax ay:Option Addr) (cx cy:Nat) (w:World) {q q1 q2:Option Nat} (hv:zbR q w a rs) (hc:rs.length≤c) (hle:zbu Ru.le 1048576 rs) (ho:∀ x∈rs,zdF x.exprs) (hx:zas q1 w ax x.tags) (hy:zas q2 w ay y.tags) (hlx:x.tags.length≤1048576) (hly:y.tags.length≤1048576) (hk:(chk rs).1=0) (hpx:zaJ rs x=true) (hpy:zaJ rs y=true) :
  Calls Tryz.prog 19 #[.slice a rs.length c,.agg #[.int .i64 x.rule,.slice ax x.tags.length cx],.agg #[.int .i64 y.rule,.slice ay y.tags.length cy]] w fun e w'=>e=.returned (.bool (bef rs x y))∧Below w.heap.size w w':=by
 have hl:rs.length≤1048576:=hle.1
 have B2:∀ o o',Below w.heap.size w ((w.alloc o).alloc o'):=fun o o'=>((Below.refl _ _).alloc (Nat.le_refl _) _).alloc (by simp) _
 have HPX:=hidS (fun W=>zfS rs a c x ax cx W hl hlx)
 have HPY:=hidS (fun W=>zfS rs a c y ay cy W hl hly)
 have HCK:=hidS (fun w1 (h1:Below w.heap.size w w1)=>zd0 rs a c w1 (hv.below h1) hc hle ho hk)
 have HF:=hidS (zmS (rs:=rs) (x:=x) (y:=y) hpx hpy (decide_eq_true hk))
 have HBF:=hidS (fun w1 (h1:Below w.heap.size w w1) hpx hpy=>zhV rs a c x y ax ay cx cy w1 (hv.below h1) (hx.below h1) (hy.below h1) hpx hpy)
 have HB2:=hidS B2
 rw [hpx] at HPX
 rw [hpy] at HPY
 have H1:=hidS hpx
 have H2:=hidS hpy
 clear hv hx hy B2 hpx hpy hk
 go_enter Tryz.func19,Tryz.ntmps19
 go_wp2_with (first | (go_at_call 45;with_reducible refine (HPX.out _).mono ?_;rintro e w1 ⟨rfl,hb1⟩;have x0:=zaa hb1 (p:=⟨w.heap.size,0,none⟩) (x:=.int .i64 x.rule) (by simp [go_sem]);have x1:=zaa hb1 (p:=⟨w.heap.size,1,none⟩) (x:=.slice ax x.tags.length cx) (by simp [go_sem]);have y0:=zaa hb1 (p:=⟨w.heap.size+1,0,none⟩) (x:=.int .i64 y.rule) (by simp [go_sem]);have y1:=zaa hb1 (p:=⟨w.heap.size+1,1,none⟩) (x:=.slice ay y.tags.length cy) (by simp [go_sem])) | (go_at_call 45;with_reducible refine (HPY.out _).mono ?_;rintro e w2 ⟨rfl,hb2⟩;have z0:=zaa hb2 y0;have z1:=zaa hb2 y1;have z2:=zaa hb2 x0;have z3:=zaa hb2 x1;have hB2:Below w.heap.size w w2:=((HB2.out _ _).trans (hb1.mono (by simp;omega))).trans (hb2.mono (by have:=hb1.size;simp at this;omega))) | (go_at_call 46;with_reducible refine (HCK.out w2 hB2).mono ?_;rintro e w3 ⟨rfl,hb3⟩;have v0:=zaa hb3 z0;have v1:=zaa hb3 z1;have v2:=zaa hb3 z2;have v3:=zaa hb3 z3;have hB3:Below w.heap.size w w3:=hB2.trans (hb3.mono hB2.size)) | (go_at_call 47;with_reducible refine (HBF.out w3 hB3 H1.out H2.out).mono ?_;rintro e w4 ⟨rfl,hb4⟩))
 go_ret
 exact ⟨zac HF.out.symm,hB3.trans (hb4.mono hB3.size)⟩
end Go.Proofs.YtmmdlgjmplddiaaGreat
