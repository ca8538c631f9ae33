/-
  OUR OWN TEXT. Pq12, In1, Fh1, Nd3, Nd5, Nd6, Nd7, Pl4, Pg7, Ma1, Ho1, Pg8, Tk1, Tk2a, Tk2, one behind the other.
-/
import Derived.Test.YtmmdlgjmplddiaaGreatHbo
import Derived.Test.YtmmdlgjmplddiaaGreatHau
import Derived.Test.YtmmdlgjmplddiaaGreatHbm
import Derived.Test.YtmmdlgjmplddiaaGreatHai
import Derived.Test.YtmmdlgjmplddiaaGreatHaj
import Derived.Test.YtmmdlgjmplddiaaGreatHaa
import Derived.Maps.OwnSet
import Derived.Maps.RangeWalk
import Derived.DeepKeys4
import Derived.Deep.RegionHeld3
import Derived.Deep.DrawnRows
import Derived.Test.YtmmdlgjmplddiaaGreatHat
import Derived.RangeFuncFrom
import Derived.RangeFuncBound
import Derived.RangeFuncCalls
import Derived.RangeFuncLeaves
import Derived.Shelf.Abstract
import Derived.OwnWalkIn
import Derived.TacticsInMore
import Derived.Deep.RegionWith
namespace Go.Proofs.YtmmdlgjmplddiaaGreat
theorem ziF (fs:List F):∀ (ps:List Pt) (T:List F) (vs:List Vr) (m:Nat),KnR ps vs T.length→zaV vs ⟨#[]⟩=none→(∀ x∈vs,x.fact<T.length) →
  (allM ps fs [⟨T.map (·.tag),envB T vs⟩] m).1=(exts (zax ps vs T.length) fs T).map (fun U=>(⟨U.map (·.tag),envB U (zaK ps vs T.length)⟩:Pm))
 | [],T,vs,m,_,_,_=>rfl
 | p :: ps,T,vs,m,hk,hE,hT=>by
  obtain ⟨hg,hK,hrest⟩:=hk
  have hh:=ziI hg hE hK hT ⟨p.neg,T.length,zaB p,zat vs p.terms p.terms.length⟩ rfl rfl fs
  rw [zbU]
  simp only [allM,zax,exts]
  have hn:zbg p fs [⟨T.map (·.tag),envB T vs⟩]=zck p fs ⟨T.map (·.tag),envB T vs⟩:=by simp [zbg]
  rw [hn]
  unfold zck
  by_cases hneg:p.neg=true
  ·rw [if_pos hneg,if_pos hneg,if_pos hneg,if_pos hneg]
   rw [if_pos hneg] at hrest
   rw [hh]
   by_cases ha:fs.any (lets ⟨p.neg,T.length,zaB p,zat vs p.terms p.terms.length⟩ T)=true
   ·rw [if_pos ha,if_neg (by
     obtain ⟨f,hf,hf2⟩:=List.any_eq_true.1 ha
     have:=List.length_pos_of_mem (List.mem_filter.2 ⟨hf,hf2⟩)
     rw [List.length_map]
     omega),zeK]
    rfl
   ·rw [if_neg ha,if_pos (by
     rw [List.length_map,List.length_eq_zero_iff,List.filter_eq_nil_iff]
     intro f hf h2
     exact ha (List.any_eq_true.2 ⟨f,hf,h2⟩))]
    exact ziF fs ps T vs _ hrest hE hT
  ·rw [if_neg hneg,if_neg hneg,if_neg hneg,if_neg hneg]
   rw [if_neg hneg] at hrest
   rw [hh,zfs,List.flatMap_map,List.map_flatMap]
   congr 1
   funext f
   have hE2:zaV (zao vs p.terms T.length p.terms.length) ⟨#[]⟩=none:=(zcv _ _ (Nat.le_refl _)).2 ⟨hE,zc1 (zhd hg) _ (Nat.le_refl _)⟩
   have:=ziF fs ps (T ++ [f]) (zao vs p.terms T.length p.terms.length) 0 (by simpa using hrest) hE2 (fun x hx=>by simpa using zcx hT p.terms.length x hx)
   simpa using this
theorem zmy {fs:List F}{ps:List Pt} (hk:KnR ps [] 0):(allM ps fs [⟨[],[]⟩] 0).1=(exts (zax ps [] 0) fs []).map (fun U=>(⟨U.map (·.tag),envB U (zaK ps [] 0)⟩:Pm)):=ziF fs ps [] [] 0 hk rfl (fun x hx=>by simp at hx)
end Go.Proofs.YtmmdlgjmplddiaaGreat
namespace Go.Proofs.YtmmdlgjmplddiaaGreat
open Go.RowKit
def za1 (fs:List F):Nat→List Ru→List It
 | _,[]=>[]
 | i,r :: rs=>(allM r.pats fs [⟨[],[]⟩] 0).1.map (fun x=>(⟨(i:Int),x.tags⟩:It)) ++ za1 fs (i+1) rs
def zfC (rs:List Ru) (fs:List F):List It:=if ready rs fs=true then za1 fs 0 rs else []
theorem zfi (fs:List F) (r:Ru):∀ (rs:List Ru) (i:Nat),za1 fs i (rs ++ [r])=za1 fs i rs ++ (allM r.pats fs [⟨[],[]⟩] 0).1.map (fun x=>(⟨((i+rs.length:Nat):Int),x.tags⟩:It))
 | [],i=>by simp [za1]
 | s :: rs,i=>by
  simp only [List.cons_append,za1]
  rw [zfi fs r rs (i+1),List.append_assoc,List.length_cons,show i+1+rs.length=i+(rs.length+1) by omega]
theorem zfD (fs:List F) {rs:List Ru}{k:Nat}{r:Ru} (h:rs[k]?=some r):za1 fs 0 (rs.take (k+1))=za1 fs 0 (rs.take k) ++ (allM r.pats fs [⟨[],[]⟩] 0).1.map (fun x=>(⟨(k:Int),x.tags⟩:It)):=by
 have hk:k<rs.length:=(List.getElem?_eq_some_iff.1 h).1
 rw [List.take_add_one,h]
 simp only [Option.toList]
 rw [zfi,List.length_take,Nat.min_eq_left (by omega),Nat.zero_add]
theorem zh4 (p:Pt) (fs:List F) (hf:fs.length≤40) (x:Pm):(zck p fs x).length≤40 ^ (positives [p]):=by
 have:=zeQ p x fs
 unfold zck positives
 by_cases hn:p.neg=true
 ·rw [if_pos hn]
  simp [pos1,hn]
  split <;> simp
 ·rw [if_neg hn]
  simp [pos1,hn]
  omega
theorem zga (p:Pt) (fs:List F) (hf:fs.length≤40):∀ X:List Pm,(zbg p fs X).length≤X.length * 40 ^ (positives [p])
 | []=>by simp [zbg]
 | x :: r=>by
  have h1:=zga p fs hf r
  have h2:=zh4 p fs hf x
  have h3:zbg p fs (x :: r)=zck p fs x ++ zbg p fs r:=by unfold zbg;rw [List.flatMap_cons]
  rw [h3,List.length_append,List.length_cons,Nat.add_mul]
  omega
theorem zhM (fs:List F) (hf:fs.length≤40):∀ (ps:List Pt) (xs:List Pm) (n:Nat),(allM ps fs xs n).1.length≤xs.length * 40 ^ positives ps
 | [],xs,n=>by simp [allM,positives]
 | r :: ps,xs,n=>by
  have h1:=zhM fs hf ps (zbg r fs xs) (n+(zbg r fs xs).length)
  have h2:=zga r fs hf xs
  have h3:positives (r :: ps)=positives [r]+positives ps:=by
   unfold positives
   rw [← List.countP_append]
   rfl
  simp only [allM]
  rw [h3,Nat.pow_add,← Nat.mul_assoc]
  exact Nat.le_trans h1 (Nat.mul_le_mul_right _ h2)
theorem zg7 {rs:List Ru}{fs:List F} (h:ready rs fs=true) {r:Ru} (hr:r∈rs):(allM r.pats fs [⟨[],[]⟩] 0).1.length≤64000∧∀ x∈(allM r.pats fs [⟨[],[]⟩] 0).1,x.tags.length≤6:=by
 obtain ⟨hck,_,hf⟩:=zbE h
 obtain ⟨h6,ht6,h3⟩:=zdi hck hr
 have h1:=zhM fs hf r.pats [⟨[],[]⟩] 0
 have h2:40 ^ positives r.pats≤40 ^ 3:=Nat.pow_le_pow_right (by omega) h3
 rw [List.length_singleton,Nat.one_mul] at h1
 refine ⟨by simp at h2;omega,fun x hx=>?_⟩
 have:=(zd9 fs r.pats [⟨[],[]⟩] 0 0 0 (by intro y hy;simp at hy;subst hy;simp) ht6 x hx).1
 omega
theorem zk4 {rs:List Ru} (h:(chk rs).1=0):rs.length≤16:=by
 unfold chk at h
 split at h
 ·assumption
 ·simp at h
theorem zev {fs:List F}:∀ (rs:List Ru) (i:Nat),(∀ r∈rs,(allM r.pats fs [⟨[],[]⟩] 0).1.length≤64000∧∀ x∈(allM r.pats fs [⟨[],[]⟩] 0).1,x.tags.length≤6)→(za1 fs i rs).length≤rs.length * 64000∧∀ y∈za1 fs i rs,y.tags.length≤6
 | [],i,_=>by simp [za1]
 | r :: rs,i,h=>by
  obtain ⟨h1,h2⟩:=zev rs (i+1) (fun x hx=>h x (List.mem_cons_of_mem _ hx))
  obtain ⟨h3,h4⟩:=h r List.mem_cons_self
  simp only [za1]
  refine ⟨by rw [List.length_append,List.length_map,List.length_cons];omega,fun y hy=>?_⟩
  rcases List.mem_append.1 hy with hy | hy
  ·obtain ⟨x,hx,rfl⟩:=List.mem_map.1 hy
   exact h4 x hx
  ·exact h2 y hy
theorem zde {rs:List Ru}{fs:List F} (h:ready rs fs=true) (k:Nat):(za1 fs 0 (rs.take k)).length≤1024000∧∀ y∈za1 fs 0 (rs.take k),y.tags.length≤6:=by
 have h1:=zk4 (zbE h).1
 obtain ⟨h2,h3⟩:=zev (fs:=fs) (rs.take k) 0 (fun r hr=>zg7 h (List.mem_of_mem_take hr))
 refine ⟨?_,h3⟩
 rw [List.length_take] at h2
 omega
theorem zgh (rs:List Ru) (fs:List F):(zfC rs fs).length≤1024000∧∀ y∈zfC rs fs,y.tags.length≤6:=by
 unfold zfC
 split
 ·rename_i h
  have:=zde h rs.length
  rwa [List.take_length] at this
 ·simp
def zmB (L:List It) (w:World) (e:Ending) (w':World):Prop:=(∃ a c M,e=.returned (.slice a (List.length M) c)∧Iw w' w.heap.size w.heap.size a c M∧M.map Prod.fst=L)∧Below w.heap.size w w'
theorem zmB.nil {L:List It}{w w':World} (hL:L=[]) (hb:Below w.heap.size w w'):zmB L w (.returned (.slice none 0 0)) w':=by
 subst hL
 exact ⟨⟨none,0,[],rfl,Iw.nil _ _ _,rfl⟩,hb⟩
def zi5 (L:List It) (w:World) (e:Ending) (w':World):Prop:=(∃ a c M,e=.returned (.slice a M.length c)∧Iw w' w.heap.size w.heap.size a c M∧M.map Prod.fst=L∧M.Pairwise (fun x y=>Apart x.2 y.2))∧Below w.heap.size w w'
end Go.Proofs.YtmmdlgjmplddiaaGreat
namespace Go.Proofs.YtmmdlgjmplddiaaGreat
def comb (fs:List F):Nat→List (List F)
 | 0=>[[]]
 | k+1=>(comb fs k).flatMap (fun S=>fs.map (fun f=>S ++ [f]))
def zeD (fs:List F):Nat→List (List F)
 | 0=>[[]]
 | k+1=>fs.flatMap (fun f=>(zeD fs k).map (fun S=>f :: S))
theorem zmF {α:Type}:∀ l:List α,l.flatMap (fun f=>[[f]])=l.map (fun f=>[f])
 | []=>rfl
 | x :: r=>by rw [List.flatMap_cons,zmF r];rfl
theorem zgd (fs:List F):∀ k,zeD fs (k+1)=(zeD fs k).flatMap (fun S=>fs.map (fun f=>S ++ [f]))
 | 0=>by
  show fs.flatMap (fun f=>[[f]])=[[]].flatMap (fun S=>fs.map (fun f=>S ++ [f]))
  rw [zmF]
  simp
 | k+1=>by
  have ih:=zgd fs k
  show fs.flatMap (fun f=>(zeD fs (k+1)).map (fun S=>f :: S))=(fs.flatMap (fun f=>(zeD fs k).map (fun S=>f :: S))).flatMap (fun S=>fs.map (fun f=>S ++ [f]))
  rw [List.flatMap_assoc]
  congr 1
  funext f
  rw [ih,List.map_flatMap,List.flatMap_map]
  congr 1
  funext S
  rw [List.map_map]
  rfl
theorem ziO (fs:List F):∀ k,zeD fs k=comb fs k
 | 0=>rfl
 | k+1=>by rw [zgd,ziO fs k];rfl
theorem zmt {α β:Type}{g:α→List β}{m:Nat} (hg:∀ x,(g x).length=m):∀ l:List α,(l.flatMap g).length=l.length * m
 | []=>by simp
 | x :: r=>by rw [List.flatMap_cons,List.length_append,hg,zmt hg r,List.length_cons,Nat.succ_mul];omega
theorem zmr {α β:Type}{g:α→List β}{m:Nat} (hg:∀ x,(g x).length=m):∀ (l:List α) (i:Nat) (x:α) (j:Nat) (u:β),l[i]?=some x→(g x)[j]?=some u→(l.flatMap g)[i * m+j]?=some u
 | [],i,x,j,u,h,_=>by simp at h
 | y :: r,0,x,j,u,h,hu=>by
  simp at h
  subst h
  rw [List.flatMap_cons,Nat.zero_mul,Nat.zero_add,List.getElem?_append_left (List.getElem?_eq_some_iff.1 hu).1]
  exact hu
 | y :: r,i+1,x,j,u,h,hu=>by
  rw [List.flatMap_cons,List.getElem?_append_right (by rw [hg,Nat.succ_mul];omega),hg,show (i+1) * m+j - m=i * m+j by rw [Nat.succ_mul];omega]
  exact zmr hg r i x j u (by simpa using h) hu
theorem zeR (fs:List F):∀ k,(comb fs k).length=fs.length ^ k
 | 0=>rfl
 | k+1=>by
  simp only [comb]
  rw [zmt (m:=fs.length) (fun S=>by simp),zeR fs k,Nat.pow_succ]
theorem zkb (fs:List F):∀ (k j:Nat),j<fs.length ^ k→∃ U,(comb fs k)[j]?=some U∧U.length=k∧∀ m,m<k→U[m]?=fs[j / fs.length ^ (k - 1 - m) % fs.length]?
 | 0,j,h=>by
  simp at h
  subst h
  exact ⟨[],rfl,rfl,fun m hm=>by omega⟩
 | k+1,j,h=>by
  have hl:0<fs.length:=by
   rcases Nat.eq_zero_or_pos fs.length with h0 | h0
   ·rw [h0,Nat.zero_pow (by omega)] at h
    omega
   ·exact h0
  have hj:j / fs.length<fs.length ^ k:=by
   rw [Nat.div_lt_iff_lt_mul hl,← Nat.pow_succ]
   exact h
  obtain ⟨U,h1,h2,h3⟩:=zkb fs k (j / fs.length) hj
  have hm:=Nat.mod_lt j hl
  obtain ⟨f,hf⟩:∃ f,fs[j % fs.length]?=some f:=⟨fs[j % fs.length],by simp [hm]⟩
  refine ⟨U ++ [f],?_,by simp [h2],fun m hmk=>?_⟩
  ·have:=zmr (g:=fun S=>fs.map (fun f=>S ++ [f])) (m:=fs.length) (fun S=>by simp) (comb fs k) (j / fs.length) U (j % fs.length) (U ++ [f]) h1 (by simp [hf])
   rw [Nat.div_add_mod' j fs.length] at this
   exact this
  ·by_cases hk:m=k
   ·subst hk
    rw [List.getElem?_append_right (by omega),h2,Nat.sub_self,show m+1 - 1 - m=0 by omega,Nat.pow_zero,Nat.div_one,hf]
    rfl
   ·rw [List.getElem?_append_left (by omega),h3 m (by omega),Nat.div_div_eq_div_mul,← Nat.pow_succ',show (k - 1 - m).succ=k+1 - 1 - m by omega]
def okS:List Cp→List F→List F→List F→Bool
 | [],_,_,_=>true
 | c :: cs,fs,T,S=>if c.neg=true then !(fs.any (lets c T)) && okS cs fs T S else (match S with | []=>false | f :: S'=>lets c T f && okS cs fs (T ++ [f]) S')
def posC (cs:List Cp):Nat:=cs.countP (fun c=>!c.neg)
theorem zfq (fs:List F):∀ (cs:List Cp) (T:List F),exts cs fs T=((zeD fs (posC cs)).filter (okS cs fs T)).map (fun S=>T ++ S)
 | [],T=>by simp [exts,posC,zeD,okS]
 | c :: cs,T=>by
  cases hn:c.neg
  ·have hp:posC (c :: cs)=posC cs+1:=by simp [posC,hn]
   simp only [exts,hn,hp,zeD,List.filter_flatMap,List.map_flatMap]
   rw [if_neg (by simp)]
   have key:∀ l:List F,(l.filter (lets c T)).flatMap (fun f=>exts cs fs (T ++ [f]))=l.flatMap (fun f=>List.map (fun S=>T ++ S) (List.filter (okS (c :: cs) fs T) ((zeD fs (posC cs)).map (fun S=>f :: S)))):=by
    intro l
    induction l with
    | nil=>rfl
    | cons f r ih=>
     rw [List.flatMap_cons,← ih]
     have e:List.filter (okS (c :: cs) fs T) ((zeD fs (posC cs)).map (fun S=>f :: S))=if lets c T f=true then ((zeD fs (posC cs)).filter (okS cs fs (T ++ [f]))).map (fun S=>f :: S) else []:=by
      rw [List.filter_map]
      have e2:(okS (c :: cs) fs T ∘ fun S=>f :: S)=fun S=>lets c T f && okS cs fs (T ++ [f]) S:=by
       funext S
       simp [okS,hn]
      rw [e2]
      cases hl:lets c T f
      ·simp
      ·simp
     rw [e]
     cases hl:lets c T f
     ·rw [List.filter_cons_of_neg (by simp [hl])]
      simp
     ·rw [List.filter_cons_of_pos hl,List.flatMap_cons,zfq fs cs (T ++ [f])]
      simp
   exact key fs
  ·have hp:posC (c :: cs)=posC cs:=by simp [posC,hn]
   simp only [exts,hn,hp,if_true]
   cases ha:fs.any (lets c T)
   ·simp only [Bool.false_eq_true,if_false]
    rw [zfq fs cs T]
    congr 2
    funext S
    simp [okS,hn,ha]
   ·simp only [if_true]
    have e:okS (c :: cs) fs T=fun _=>false:=by
     funext S
     simp [okS,hn,ha]
    rw [e]
    simp
theorem zfg:∀ (ps:List Pt) (vs:List Vr) (n:Nat),posC (zax ps vs n)=positives ps
 | [],_,_=>rfl
 | p :: ps,vs,n=>by
  unfold posC positives
  simp only [zax,List.countP_cons]
  cases hn:p.neg
  ·have:=zfg ps (zao vs p.terms n p.terms.length) (n+1)
   unfold posC positives at this
   simp [pos1,hn,this]
  ·have:=zfg ps vs n
   unfold posC positives at this
   simp [pos1,hn,this]
theorem zgR {fs:List F}:∀ {k:Nat}{U:List F},U∈comb fs k→∀ f∈U,f∈fs
 | 0,U,h=>by
  simp [comb] at h
  simp [h]
 | k+1,U,h=>by
  simp only [comb,List.mem_flatMap,List.mem_map] at h
  obtain ⟨S,hS,f,hf,rfl⟩:=h
  intro g hg
  rcases List.mem_append.1 hg with hg | hg
  ·exact zgR hS g hg
  ·simp at hg
   exact hg ▸ hf
def zcR (fs:List F) (k:Nat):List (List Int):=(comb fs k).map (fun U=>U.map (·.tag))
theorem zdU {α β:Type}{f:α→β}{p:α→Bool}{q:β→Bool}:∀ {l:List α},(∀ x∈l,p x=q (f x))→(l.filter p).map f=(l.map f).filter q
 | [],_=>rfl
 | x :: r,h=>by
  have ih:=zdU (f:=f) (p:=p) (q:=q) (l:=r) (fun y hy=>h y (by simp [hy]))
  have hx:=h x (by simp)
  cases hp:p x
  ·rw [List.filter_cons_of_neg (by simp [hp]),List.map_cons,List.filter_cons_of_neg (by rw [← hx,hp];simp),ih]
  ·rw [List.filter_cons_of_pos hp,List.map_cons,List.map_cons,List.filter_cons_of_pos (by rw [← hx,hp]),ih]
theorem zen {r:Ru}{fs:List F} (hc:(chk [r]).1=0) (hg:zaS fs=true):(allM r.pats fs [⟨[],[]⟩] 0).1.map (·.tags)=(zcR fs (positives r.pats)).filter (za3 r fs):=by
 have hk:=zcT hc (r:=r) (by simp)
 have h':(allM r.pats fs [⟨[],[]⟩] 0).1.map (·.tags)=(exts (zax r.pats [] 0) fs []).map (fun U=>U.map (·.tag)):=zgt fs r.pats [] [] 0 hk rfl (fun x hx=>by simp at hx)
 have hd:∀ f∈fs,∀ g∈fs,f.tag=g.tag→f=g:=by
  simp only [zaS,Bool.and_eq_true] at hg
  exact ze9 hg.2
 have hE:=zfq fs (zax r.pats [] 0) []
 rw [zfg,ziO] at hE
 have hE':exts (zax r.pats [] 0) fs []=(comb fs (positives r.pats)).filter (okS (zax r.pats [] 0) fs []):=by
  rw [hE]
  simp
 rw [h',hE']
 unfold zcR
 refine zdU fun S hS=>?_
 have hrd:ready [r] fs=true:=by simp [ready,hc,hg]
 have hh:za3 r fs (S.map (·.tag))=true ↔ okS (zax r.pats [] 0) fs [] S=true:=by
  unfold za3
  rw [hrd,Bool.true_and,zeO hk]
  constructor
  ·rintro ⟨U,hU,he⟩
   rw [hE'] at hU
   obtain ⟨hU1,hU2⟩:=List.mem_filter.1 hU
   rw [← zdB hd U S (zgR hU1) (zgR hS) he]
   exact hU2
  ·intro h
   exact ⟨S,by rw [hE'];exact List.mem_filter.2 ⟨hS,h⟩,rfl⟩
 cases h1:okS (zax r.pats [] 0) fs [] S
 ·cases h2:za3 r fs (S.map (·.tag))
  ·rfl
  ·rw [hh.1 h2] at h1
   cases h1
 ·exact (hh.2 h1).symm
theorem zdX (fs:List F):∀ (l1 l2:List Ru) (i:Nat),za1 fs i (l1 ++ l2)=za1 fs i l1 ++ za1 fs (i+l1.length) l2
 | [],l2,i=>by simp [za1]
 | r :: l1,l2,i=>by
  simp only [List.cons_append,za1]
  rw [zdX fs l1 l2 (i+1),List.append_assoc,List.length_cons,show i+1+l1.length=i+(l1.length+1) by omega]
theorem zfv {fs:List F}{x:It}:∀ {rs:List Ru}{i:Nat},x∈za1 fs i rs→∃ k r,rs[k]?=some r∧x.rule=((i+k:Nat):Int)∧x.tags∈(allM r.pats fs [⟨[],[]⟩] 0).1.map (·.tags)
 | [],i,h=>by simp [za1] at h
 | r :: rs,i,h=>by
  simp only [za1] at h
  rcases List.mem_append.1 h with h | h
  ·obtain ⟨m,hm,rfl⟩:=List.mem_map.1 h
   exact ⟨0,r,rfl,rfl,List.mem_map.2 ⟨m,hm,rfl⟩⟩
  ·obtain ⟨k,r',h1,h2,h3⟩:=zfv h
   exact ⟨k+1,r',by simpa using h1,by rw [h2];congr 1;omega,h3⟩
theorem zjt {pre:List Ru}{r:Ru} (h:(chk1 pre r).1=0):(chk1 [] r).1=0:=by
 unfold chk1 at h ⊢
 split at h
 ·simp at h
 ·split at h
  ·simp at h
  ·simp only [List.any_nil,Bool.false_eq_true,if_false]
   exact h
theorem zfu:∀ {s pre:List Ru}{k:Nat},(zcD pre s k).1=0→∀ r∈s,(chk1 [] r).1=0
 | [],_,_,_,r,hr=>by simp at hr
 | q :: s,pre,k,h,r,hr=>by
  unfold zcD at h
  split at h
  ·rename_i h0
   rcases List.mem_cons.1 hr with rfl | hr
   ·exact zjt h0
   ·exact zfu h r hr
  ·rename_i h0
   exact absurd h h0
theorem ze2 {rs:List Ru} (h:(chk rs).1=0) {r:Ru} (hr:r∈rs):(chk [r]).1=0:=by
 unfold chk at h
 split at h
 ·have:=zfu h r hr
  unfold chk
  rw [if_pos (by simp)]
  unfold zcD
  rw [if_pos this]
  rfl
 ·simp at h
def before (rs:List Ru) (fs:List F) (i j:Nat) (r:Ru):Nat:=(za1 fs 0 (rs.take i)).length+(((zcR fs (positives r.pats)).take j).filter (za3 r fs)).length
section
variable {rs : List Ru} {fs : List F} {i : Nat} {r : Ru}
theorem zf7 (hk:(chk rs).1=0) (hg:zaS fs=true) (hr:rs[i]?=some r):za1 fs 0 rs=za1 fs 0 (rs.take i) ++ ((zcR fs (positives r.pats)).filter (za3 r fs)).map (fun t=>(⟨(i:Int),t⟩:It)) ++ za1 fs (i+1) (rs.drop (i+1)):=by
 have hi:i<rs.length:=(List.getElem?_eq_some_iff.1 hr).1
 have h1:=zdX fs (rs.take (i+1)) (rs.drop (i+1)) 0
 rw [List.take_append_drop,zfD fs hr,Nat.zero_add,List.length_take,Nat.min_eq_left (by omega)] at h1
 rw [h1,← zen (ze2 hk (List.mem_of_getElem? hr)) hg,List.map_map]
 rfl
theorem zil (hk:(chk rs).1=0) (hg:zaS fs=true) (hr:rs[i]?=some r):before rs fs i (zcR fs (positives r.pats)).length r=(za1 fs 0 (rs.take (i+1))).length:=by
 unfold before
 rw [List.take_length,zfD fs hr,List.length_append,List.length_map,← zen (ze2 hk (List.mem_of_getElem? hr)) hg,List.length_map]
theorem zdH {j:Nat}{t:List Int} (ht:(zcR fs (positives r.pats))[j]?=some t):before rs fs i (j+1) r=before rs fs i j r+(if za3 r fs t=true then 1 else 0):=by
 unfold before
 rw [List.take_add_one,ht,List.filter_append,List.length_append]
 cases h:za3 r fs t <;> simp [h] <;> omega
theorem zm6 (hk:(chk rs).1=0) (hg:zaS fs=true) (hr:rs[i]?=some r) {j:Nat}{t:List Int} (ht:(zcR fs (positives r.pats))[j]?=some t) (hh:za3 r fs t=true):(za1 fs 0 rs)[before rs fs i j r]?=some ⟨(i:Int),t⟩:=by
 have hj:j<(zcR fs (positives r.pats)).length:=(List.getElem?_eq_some_iff.1 ht).1
 have hs:zcR fs (positives r.pats)=(zcR fs (positives r.pats)).take j ++ (t :: (zcR fs (positives r.pats)).drop (j+1)):=by
  have:(zcR fs (positives r.pats)).drop j=t :: (zcR fs (positives r.pats)).drop (j+1):=by
   rw [List.drop_eq_getElem_cons hj]
   congr 1
   exact (List.getElem?_eq_some_iff.1 ht).2
  rw [← this,List.take_append_drop]
 have hf:((zcR fs (positives r.pats)).filter (za3 r fs))[(((zcR fs (positives r.pats)).take j).filter (za3 r fs)).length]?=some t:=by
  generalize zcR fs (positives r.pats)=L at hs
  conv=>
   lhs
   arg 1
   rw [hs]
  rw [List.filter_append,List.filter_cons_of_pos hh,List.getElem?_append_right (Nat.le_refl _),Nat.sub_self]
  rfl
 rw [zf7 hk hg hr,List.append_assoc,before,List.getElem?_append_right (by omega),Nat.add_sub_cancel_left,List.getElem?_append_left (by have:=(List.getElem?_eq_some_iff.1 hf).1;simpa using this),List.getElem?_map,hf]
 rfl
theorem zmh (hk:(chk rs).1=0) (hg:zaS fs=true) (hr:rs[i]?=some r) {t:List Int} (hm:(⟨(i:Int),t⟩:It)∈za1 fs 0 rs):za3 r fs t=true:=by
 obtain ⟨k,r',h1,h2,h3⟩:=zfv hm
 have e:k=i:=by
  have h2':(i:Int)=((0+k:Nat):Int):=h2
  omega
 subst e
 rw [hr] at h1
 injection h1 with h1
 subst h1
 rw [zen (ze2 hk (List.mem_of_getElem? hr)) hg] at h3
 exact (List.mem_filter.1 h3).2
end
end Go.Proofs.YtmmdlgjmplddiaaGreat
namespace Go.Proofs.YtmmdlgjmplddiaaGreat
open Go.RowKit Go.Maps
attribute [local go_sem ↓] Go.wp_at_zero Go.wp_at_succ
def zc6 (w:World) (b:Nat) (x:AlX) (i:Nat) (v:Value):Prop:=w.heap[b]?=some (.cells #[.string x.1.cls,.int .i64 x.1.arity,x.2,.int .i64 (i:Int),v] 99 (0,0))
theorem zc6.facts {w:World}{b:Nat}{x:AlX}{i:Nat}{v:Value} (h:zc6 w b x i v):(w.cell? ⟨b,0,none⟩=some (.string x.1.cls)∧w.cell? ⟨b,1,none⟩=some (.int .i64 x.1.arity)∧w.cell? ⟨b,2,none⟩=some x.2∧w.cell? ⟨b,4,none⟩=some v)∧w.frozen? ⟨b,4,none⟩=false∧b<w.heap.size:=by
 unfold zc6 at h
 refine ⟨⟨?_,?_,?_,?_⟩,?_,zab h⟩ <;> simp [World.cell?,World.frozen?,h]
theorem zc6.set4 {w:World}{b:Nat}{x:AlX}{i:Nat}{v:Value} (h:zc6 w b x i v) (y:Value):zc6 (w.setCell ⟨b,4,none⟩ y) b x i y:=by
 have:=zad (i:=4) h y
 simpa [zc6] using this
theorem zj4 {P:World→Prop}{w:World}{b:Nat}{x:AlX}{i:Nat}{v y:Value} (h0:zc6 w b x i v) (h:∀ wt,zc6 wt b x i y→Turned w wt b→P wt):P (w.setCell ⟨b,4,none⟩ y):=h _ (h0.set4 y) (Turned.setCells [y] 4 w b)
theorem zc6.num {w:World}{b:Nat}{x y:AlX}{i j:Nat}{u v:Value} (h:zc6 w b x i u) (k:zc6 w b y j v):i=j:=by
 unfold zc6 at h k
 rw [h] at k
 simp at k
 omega
def sel (x:Al) (Q:List (Value × F)):List (Value × F):=Q.filter (fun y=>passes x y.2)
theorem zew {x:Al}{Q:List (Value × F)}{p:Value}{f:F} (h:passes x f=true):sel x (Q ++ [(p,f)])=sel x Q ++ [(p,f)]:=by
 unfold sel
 rw [List.filter_append]
 simp [h]
theorem ziy {x:Al}{Q:List (Value × F)}{p:Value}{f:F} (h:passes x f=false):sel x (Q ++ [(p,f)])=sel x Q:=by
 unfold sel
 rw [List.filter_append]
 simp [h]
structure FrT (base:Nat) (w w':World):Prop where
 rest:Below base w w'
 kept:∀ (k:Nat) (c:Array Value) (t:TypeId) (fr:Nat × Nat),w.heap[k]?=some (.cells c t fr)→t≠99→t≠75→w'.heap[k]?=some (.cells c t fr)
theorem FrT.refl (base:Nat) (w:World):FrT base w w:=⟨Below.refl _ _,fun _ _ _ _ h _ _=>h⟩
theorem FrT.trans {base:Nat}{u v w:World} (h:FrT base u v) (k:FrT base v w):FrT base u w:=⟨h.rest.trans k.rest,fun j c t fr hj h1 h2=>k.kept j c t fr (h.kept j c t fr hj h1 h2) h1 h2⟩
theorem FrT.of_below {base:Nat}{w w':World} (h:Below w.heap.size w w') (hb:base≤w.heap.size):FrT base w w':=⟨h.mono hb,fun k _ _ _ hk _ _=>(h.block k (zab hk)).trans hk⟩
theorem FrT.own {base B:Nat}{w w':World}{e:TypeId}{m:Nat}{v:Value}{n:Nat}{xs:List Value} (h:FrT base w w') (ho:w.ownsRow B e m v n xs) (h1:e≠99) (h2:e≠75):w'.ownsRow B e m v n xs:=
 zaf ho fun k hk=>by
  obtain ⟨c,hc⟩:=zah ho hk
  rw [h.kept k _ _ _ hc h1 h2,hc]
structure NF (w:World) (base gb mb:Nat) (la:Option Addr) (lc:Nat) (L:List AlX) (bs:List Nat) (V:List Value) (QQ:Nat→List (Value × F)):Prop where
 box:GB w gb mb (.slice la L.length lc)
 row:w.ownsRow base 100 1 (.slice la L.length lc) L.length (ptrs bs)
 lenb:bs.length=L.length
 lenv:V.length=L.length
 node:∀ (i:Nat) (x:AlX) (b:Nat) (v:Value),L[i]?=some x→bs[i]?=some b→V[i]?=some v→zc6 w b x i v∧base≤b∧(∃ fa fc,v=.slice fa (sel x.1 (QQ i)).length fc)∧w.ownsRow base 75 1 v (sel x.1 (QQ i)).length ((sel x.1 (QQ i)).map Prod.fst)
 als:∀ x∈L,AlP w base x
 apart:∀ (i j:Nat) (u v:Value),V[i]?=some u→V[j]?=some v→i≠j→Apart u v
theorem NF.bel {w w':World}{base gb mb:Nat}{la:Option Addr}{lc:Nat}{L:List AlX}{bs:List Nat}{V:List Value}{QQ:Nat→List (Value × F)} (h:NF w base gb mb la lc L bs V QQ) (hb:Below w.heap.size w w'):NF w' base gb mb la lc L bs V QQ:=
 ⟨(hb.block gb (zab h.box)).trans h.box,zai h.row hb,h.lenb,h.lenv,fun i x b v hx hb' hv=>by
  obtain ⟨h1,h2,h3,h4⟩:=h.node i x b v hx hb' hv
  exact ⟨(hb.block b (zab h1)).trans h1,h2,h3,zai h4 hb⟩,fun x hx=>(h.als x hx).bel hb,h.apart⟩
theorem NF.same {w:World}{base gb mb:Nat}{la:Option Addr}{lc:Nat}{L:List AlX}{bs:List Nat}{V:List Value}{QQ QQ':Nat→List (Value × F)} (h:NF w base gb mb la lc L bs V QQ) (he:∀ i x,L[i]?=some x→sel x.1 (QQ i)=sel x.1 (QQ' i)):NF w base gb mb la lc L bs V QQ':=
 ⟨h.box,h.row,h.lenb,h.lenv,fun i x b v hx hb' hv=>by
  rw [← he i x hx]
  exact h.node i x b v hx hb' hv,h.als,h.apart⟩
theorem NF.ofNS {kl:Al→Lit}{w:World}{base gb mb:Nat}{la:Option Addr}{lc:Nat}{L:List AlX}{bs:List Nat}{D:DataW Unit} (h:NS kl w base gb mb la lc L bs D):NF w base gb mb la lc L bs (List.replicate L.length (.slice none 0 0)) (fun _=>[]):=by
 refine ⟨h.box,h.row,by have:=h.inv.len;simpa using this,by simp,fun i x b v hx hb hv=>?_,h.als,fun i j u v hu hv _ g hg=>?_⟩
 ·have e:=List.eq_of_mem_replicate (List.mem_of_getElem? hv)
  subst e
  exact ⟨(h.node i x b hx hb).1,(h.node i x b hx hb).2,⟨none,0,rfl⟩,World.ownsRow_nil _ _ _ _⟩
 ·have e:=List.eq_of_mem_replicate (List.mem_of_getElem? hu)
  subst e
  cases hg
theorem NF.push {w w7 w8:World}{base gb mb:Nat}{la:Option Addr}{lc:Nat}{L:List AlX}{bs:List Nat}{V:List Value}{QQ:Nat→List (Value × F)}{m b:Nat}{x:AlX}{v p:Value}{f:F}{o:Obj}{fa:Option Addr}{fc:Nat}
  (h:NF w base gb mb la lc L bs V QQ) (hx:L[m]?=some x) (hb:bs[m]?=some b) (hv:V[m]?=some v) (hp:passes x.1 f=true) (hbase:base≤w.heap.size)
  (ho7:w7.ownsRow base 75 1 (.slice fa ((sel x.1 (QQ m)).length+1) fc) ((sel x.1 (QQ m)).length+1) ((sel x.1 (QQ m)).map Prod.fst ++ [p])) (hg7:(w.alloc o).grownBy w7 v.ownBlock)
  (hl7:(Value.slice fa ((sel x.1 (QQ m)).length+1) fc).ownBlock=v.ownBlock∨(Value.slice fa ((sel x.1 (QQ m)).length+1) fc).ownBlock=some (w.alloc o).heap.size)
  (hN8:zc6 w8 b x m (.slice fa ((sel x.1 (QQ m)).length+1) fc)) (ht8:Turned w7 w8 b) :
  NF w8 base gb mb la lc L bs (V.set m (.slice fa ((sel x.1 (QQ m)).length+1) fc)) (fun i=>if i=m then QQ m ++ [(p,f)] else QQ i)∧FrT base w w8:=by
 obtain ⟨n1,n2,n3,n4⟩:=h.node m x b v hx hb hv
 have hml:m<V.length:=(List.getElem?_eq_some_iff.1 hv).1
 have hs7:=hg7.size
 simp at hs7
 have stay:∀ k,k<w.heap.size→k≠b→v.ownBlock≠some k→w8.heap[k]?=w.heap[k]?:=fun k hk h1 h2=>by
  rw [ht8.block k h1,hg7.block k (by simp;omega) (fun e=>h2 e.symm),Below.heap_alloc _ _ _ hk]
 have stayC:∀ (k:Nat) (c:Array Value) (t:TypeId) (fr:Nat × Nat),w.heap[k]?=some (.cells c t fr)→t≠99→t≠75→w8.heap[k]?=some (.cells c t fr):=fun k c t fr hk h1 h2=>by
  refine (stay k (zab hk) (fun e=>?_) (fun e=>?_)).trans hk
  ·subst e
   exact zaF hk n1 h1
  ·obtain ⟨c',hc'⟩:=zah n4 e
   exact zaF hk hc' h2
 have stayO:∀ {e:TypeId}{m:Nat}{v:Value}{n:Nat}{xs:List Value},w.ownsRow base e m v n xs→e≠99→e≠75→w8.ownsRow base e m v n xs:=fun ho h1 h2=>zaf ho fun k hk=>by
  obtain ⟨c,hc⟩:=zah ho hk
  rw [stayC k _ _ _ hc h1 h2,hc]
 have hb8:b<w.heap.size:=n1.facts.2.2
 have hold:∀ (i:Nat) (u:Value),V[i]?=some u→i≠m→∃ (x':AlX) (b':Nat),L[i]?=some x'∧bs[i]?=some b':=fun i u hu _=>by
  have hi:i<V.length:=(List.getElem?_eq_some_iff.1 hu).1
  have e1:=h.lenv
  have e2:=h.lenb
  exact ⟨L[i]'(by omega),bs[i]'(by omega),by simp,by simp⟩
 have hnew:∀ (i:Nat) (u:Value),V[i]?=some u→i≠m→∀ g,u.ownBlock=some g→(Value.slice fa ((sel x.1 (QQ m)).length+1) fc).ownBlock≠some g:=fun i u hu hi g hg hg'=>by
  obtain ⟨x',b',hx',hb'⟩:=hold i u hu hi
  have hlt:=((h.node i x' b' u hx' hb' hu).2.2.2.lt g hg).2
  rcases hl7 with hl | hl
  ·rw [hl] at hg'
   exact h.apart i m u v hu hv hi g hg hg'
  ·rw [hl] at hg'
   injection hg' with hg'
   simp at hg'
   omega
 refine ⟨⟨stayC gb _ _ _ h.box (by decide) (by decide),stayO h.row (by decide) (by decide),h.lenb,by simp [h.lenv],fun i x' b' u hx' hb' hu=>?_,fun y hy=>⟨(h.als y hy).1,stayO (h.als y hy).2 (by decide) (by decide)⟩,fun i j u u' hu hu' hij=>?_⟩,⟨?_,stayC⟩⟩
 ·by_cases hi:i=m
  ·subst hi
   rw [hx] at hx'
   rw [hb] at hb'
   cases hx'
   cases hb'
   rw [List.getElem?_set_self hml] at hu
   cases hu
   refine ⟨hN8,n2,⟨fa,fc,?_⟩,?_⟩
   ·simp [zew hp]
   ·have ho8:w8.ownsRow base 75 1 (.slice fa ((sel x.1 (QQ i)).length+1) fc) ((sel x.1 (QQ i)).length+1) ((sel x.1 (QQ i)).map Prod.fst ++ [p]):=zaf ho7 fun k hk=>ht8.block k (fun e=>by
     obtain ⟨c,hc⟩:=zah ho7 hk
     subst e
     have hG7:w7.heap[k]?=w.heap[k]?:=by
      rw [hg7.block k (by simp;omega) (fun e=>by obtain ⟨c',hc'⟩:=zah n4 e.symm;exact zaF n1 hc' (by decide)),Below.heap_alloc _ _ _ hb8]
     rw [hG7] at hc
     exact zaF n1 hc (by decide))
    simpa [zew hp] using ho8
  ·rw [List.getElem?_set_ne (fun e=>hi e.symm)] at hu
   obtain ⟨k1,k2,k3,k4⟩:=h.node i x' b' u hx' hb' hu
   simp only [if_neg hi]
   refine ⟨(stay b' (zab k1) (fun e=>?_) (fun e=>?_)).trans k1,k2,k3,?_⟩
   ·subst e
    exact hi (k1.num n1)
   ·obtain ⟨c',hc'⟩:=zah n4 e
    exact zaF k1 hc' (by decide)
   ·refine zaf k4 fun k hk=>stay k (k4.lt k hk).2 (fun e=>?_) (fun e=>h.apart i m u v hu hv hi k hk e)
    subst e
    obtain ⟨c',hc'⟩:=zah k4 hk
    exact zaF n1 hc' (by decide)
 ·by_cases hi:i=m
  ·subst hi
   rw [List.getElem?_set_self hml] at hu
   rw [List.getElem?_set_ne hij] at hu'
   cases hu
   intro g hg hg'
   exact hnew j u' hu' (fun e=>hij e.symm) g hg' hg
  ·rw [List.getElem?_set_ne (fun e=>hi e.symm)] at hu
   by_cases hj:j=m
   ·subst hj
    rw [List.getElem?_set_self hml] at hu'
    cases hu'
    exact fun g hg=>hnew i u hu hi g hg
   ·rw [List.getElem?_set_ne (fun e=>hj e.symm)] at hu'
    exact h.apart i j u u' hu hu' hij
 ·refine (((Below.refl base w).alloc hbase _).grown hg7 (by simp;omega) (fun k hk=>(n4.lt k hk).1)).trans (ht8.below n2)
theorem zn0:(Tryz.prog.info? 75).map (fun i=>(i.zero,i.size,i.bytes))=some (some (.pointer none),1,8):=by kernel_rfl
theorem zno {w:World}{p:Value}{f:F} (h:zcs w p f):p.oneCell'=true:=by
 obtain ⟨b,o,rfl,_⟩:=h
 rfl
theorem zc6.nd {w:World}{b base:Nat}{x:AlX}{i:Nat}{v:Value} (h:zc6 w b x i v) (ha:AlP w base x):∃ a c,NdAt w b x.1 a c:=by
 obtain ⟨⟨a,c,e⟩,ho⟩:=ha
 obtain ⟨⟨h0,h1,h2,_⟩,_⟩:=h.facts
 rw [e] at h2 ho
 exact ⟨a,c,h0,h1,h2,zcE.owns ho⟩
set_option maxRecDepth 100000 in
set_option maxHeartbeats 6400000 in
theorem zhu (base gb mb:Nat) (la:Option Addr) (lc:Nat) (L:List AlX) (bs:List Nat) (V:List Value) (Q:List (Value × F)) (pf:Value) (f:F) (wA w:World) (hA:Below wA.heap.size wA w) (hAB:wA.heap.size≤base) (hF:zcs wA pf f) (hN:NF w base gb mb la lc L bs V (fun _=>Q)) (hB:base≤w.heap.size) (hL:L.length≤1000) (hQ:Q.length≤1000) (h6:∀ x∈L,x.1.tests.length≤1048576) :
  Calls Tryz.prog 53 #[.pointer (some ⟨gb,0,none⟩),pf] w fun e w'=>e=.returned (.tuple #[])∧(∃ V',NF w' base gb mb la lc L bs V' (fun _=>Q ++ [(pf,f)]))∧FrT base w w':=by
 obtain ⟨fb,fo,hpf⟩:∃ fb fo,pf=.pointer (some ⟨fb,fo,none⟩):=by
  obtain ⟨fb,fo,h,_⟩:=hF
  exact ⟨fb,fo,h⟩
 subst hpf
 have HA:=hidP hA
 have HF:=hidP hF
 have HN:=hidP hN
 have H6:=hidP h6
 have hFA:=hidP (zno hF)
 obtain ⟨⟨g0,g1⟩,_,hgl⟩:=hN.box.facts
 clear hA hF hN h6
 go_enter Tryz.func53,Tryz.ntmps53
 go_wp2_with fail
 clear g0 g1
 go_loopw [11] (fun iv wr=>∃ (k:Nat) (V':List Value),iv=.int .i64 (k:Int)∧k≤L.length∧NF wr base gb mb la lc L bs V' (fun i=>if i<k then Q ++ [(.pointer (some ⟨fb,fo,none⟩),f)] else Q)∧FrT base w wr) (fun iv _=>L.length - (intOf iv).toNat)
 case atStart=>exact ⟨0,V,rfl,Nat.zero_le _,HN.out.same (fun i x _=>by simp),FrT.refl _ _⟩
 case round=>
  obtain ⟨k,V',rfl,hkl,hNr,hFr⟩:=hrel
  have NR:=hidP hNr
  have FR:=hidP hFr
  have hsr:=hFr.rest.size
  have AR:=hidP (HA.out.trans (hFr.rest.mono hAB))
  clear hNr hFr HN
  by_cases hk:k<L.length
  ·obtain ⟨x,hx⟩:∃ x,L[k]?=some x:=⟨L[k],by simp [hk]⟩
   obtain ⟨nb,hnb⟩:∃ b,bs[k]?=some b:=⟨bs[k]'(by rw [NR.out.lenb];exact hk),by simp⟩
   obtain ⟨v,hv⟩:∃ v,V'[k]?=some v:=⟨V'[k]'(by rw [NR.out.lenv];exact hk),by simp⟩
   obtain ⟨rb,rfl,_,r0,_⟩:=zam NR.out.row (show (ptrs bs)[k]?=some (.pointer (some ⟨nb,0,none⟩)) by simp [ptrs,hnb])
   obtain ⟨n1,n2,⟨fa,fc,rfl⟩,n4⟩:=NR.out.node k x nb v hx hnb hv
   simp only [Nat.lt_irrefl,if_false] at hv n1 n4
   obtain ⟨na,nc,hnd⟩:=n1.nd (NR.out.als x (List.mem_of_getElem? hx))
   have HP:=hidP (zdz nb x.1 na nc (.pointer (some ⟨fb,fo,none⟩)) f wr hnd (HF.out.below AR.out) (H6.out x (List.mem_of_getElem? hx)))
   have hsl:(sel x.1 Q).length≤1000:=Nat.le_trans (List.length_filter_le _ _) hQ
   have z0:(0:Int)≤(k:Int):=by omega
   have z1:(k:Int)<(L.length:Int):=by omega
   have HX:=hidP hx
   have HNB:=hidP hnb
   have HVV:=hidP hv
   clear hx hnb hv n1 n4 hnd
   cases hm:passes x.1 f
   ·have HM:=hidP hm
    rw [hm] at HP
    clear hm
    go_wp2_with fail
    refine HP.out.mono ?_
    rintro e w3 ⟨rfl,hb3⟩
    have N3:=hidP (NR.out.bel hb3)
    have F3:=hidP (FR.out.trans (FrT.of_below hb3 (by omega)))
    clear hb3 HP r0
    go_wp2_with fail
    go_roundw
    case rel=>
     refine ⟨k+1,V',by go_num,by omega,N3.out.same (fun i y hy=>?_),F3.out⟩
     by_cases h1:i<k
     ·simp [h1,show i<k+1 by omega]
     ·by_cases h2:i=k
      ·subst h2
       rw [HX.out] at hy
       cases hy
       simp [ziy HM.out]
      ·simp [h1,show ¬ i<k+1 by omega]
    case measure=>(simp [intOf];omega)
   ·have HM:=hidP hm
    rw [hm] at HP
    clear hm
    go_wp2_with fail
    refine HP.out.mono ?_
    rintro e w3 ⟨rfl,hb3⟩
    have N3:=hidP (NR.out.bel hb3)
    have F3:=hidP (FR.out.trans (FrT.of_below hb3 (by omega)))
    have hs3:=hb3.size
    clear hb3 HP r0
    obtain ⟨n1,_,_,n4⟩:=N3.out.node k x nb _ HX.out HNB.out HVV.out
    simp only [Nat.lt_irrefl,if_false] at n4
    have N1:=hidP n1
    have N4:=hidP n4
    obtain ⟨⟨_,_,_,y4⟩,_,hbl⟩:=n1.facts
    have HW:=hidP (fun o=>(Below.refl _ _).alloc (Nat.le_refl _) o:∀ o,Below w3.heap.size w3 (w3.alloc o))
    have y4':∀ o,(w3.alloc o).cell? ⟨nb,4,none⟩=some (.slice fa (sel x.1 Q).length fc):=fun o=>zaa (HW.out o) y4
    have HNF:=hidP (fun o=>(show zc6 (w3.alloc o) nb x k (.slice fa (sel x.1 Q).length fc) from ((HW.out o).block nb hbl).trans N1.out))
    have TY:=hidP (fun o g hg=>zah (zai N4.out (HW.out o)) (k:=g) hg)
    have hB3:base≤w3.heap.size:=by omega
    clear n1 n4
    go_upto_region 5 with (first | (at_builtin;refine zae (by rfl) (.tmp 22) (.tmp 24) 97 (by rfl) base 75 _ 1 8 Tryz.underlying97 zn0 (by rfl) (by omega) _ (sel x.1 Q).length _ (by rfl) (zai N4.out (HW.out _)) (some ⟨_,0,none⟩) 1 1 (by rfl) [.pointer (some ⟨fb,fo,none⟩)] (by rfl) (fun e=>by cases e) (zaw _ _ _ _ (by first | rfl | simp)) (by intro u hu;rw [List.mem_singleton] at hu;rw [hu];exact hFA.out) (by unfold maxLen;omega) (by omega) (Nat.le_trans hB3 (HW.out _).size) ?_;intro a7 c7 w7 ho7 hg7 hl7;have N7:=hidP (show zc6 w7 nb x k (.slice fa (sel x.1 Q).length fc) from zaL (HNF.out _) hg7.out (TY.out _) (by decide));obtain ⟨_,z4,_⟩:=N7.out.facts) | fail)
    refine zj4 N7.out ?_
    intro w8 hN8 ht8
    have hR:=NF.push (QQ:=fun i=>if i<k then Q ++ [(.pointer (some ⟨fb,fo,none⟩),f)] else Q) (p:=.pointer (some ⟨fb,fo,none⟩)) (f:=f) (fa:=a7) (fc:=c7) N3.out HX.out HNB.out HVV.out HM.out hB3 (by simpa using ho7.out) hg7.out (by simpa using hl7.out) (by simpa using hN8) ht8
    have HR:=hidP hR
    clear hR hN8 ht8
    go_wp2_with fail
    go_roundw
    case rel=>
     refine ⟨k+1,_,by go_num,by omega,HR.out.1.same (fun i y hy=>?_),F3.out.trans HR.out.2⟩
     by_cases h1:i<k
     ·simp [h1,show i<k+1 by omega,show i≠k by omega]
     ·by_cases h2:i=k
      ·subst h2
       simp
      ·simp [h1,h2,show ¬ i<k+1 by omega]
    case measure=>(simp [intOf];omega)
  ·have hke:k=L.length:=by omega
   subst hke
   have hy:¬ (L.length:Int)<(L.length:Int):=by omega
   go_wp2_with fail
   go_end0
   refine ⟨rfl,⟨V',NR.out.same (fun i y hy=>?_)⟩,FR.out⟩
   have hi:=(List.getElem?_eq_some_iff.1 hy).1
   simp [hi]
end Go.Proofs.YtmmdlgjmplddiaaGreat
namespace Go.Proofs.YtmmdlgjmplddiaaGreat
open Go.RowKit Go.Maps
attribute [local go_sem ↓] Go.wp_at_zero Go.wp_at_succ
def znU (kl:Al→Lit) (base gb mb:Nat) (la:Option Addr) (lc:Nat) (L:List AlX) (bs:List Nat) (r:Ru) (w:World) (e:Ending) (w':World):Prop:=
 ∃ la' lc' L' bs' D' ca cc va vc X,e=.returned (.agg #[.slice ca X.length cc,.slice va (zaK r.pats [] 0).length vc])∧X.map Cx.cp=zax r.pats [] 0∧NS kl w' base gb mb la' lc' L' bs' D'∧PD w' w.heap.size ca cc va vc X (zaK r.pats [] 0) (L'.map Prod.fst) bs'∧Fr3 gb mb (Value.slice la L.length lc).ownBlock w w'∧(∀ g,(Value.slice la' L'.length lc').ownBlock=some g→(Value.slice la L.length lc).ownBlock=some g∨w.heap.size≤g)∧(∀ (i n:Nat),bs[i]?=some n→bs'[i]?=some n)∧(∀ (i:Nat) (y:Al),(L.map Prod.fst)[i]?=some y→(L'.map Prod.fst)[i]?=some y)∧L'.length≤L.length+r.pats.length∧(∀ x∈L',x.1.tests.length≤6)
set_option maxRecDepth 100000 in
set_option maxHeartbeats 12800000 in
theorem zhX (kl:Al→Lit) (K:KLA kl) (r:Ru) (a_p:Option Addr) (c_p:Nat) (a_e:Option Addr) (c_e:Nat) (a_c:Option Addr) (c_c:Nat) {q:Option Nat} (base gb mb:Nat) (la:Option Addr) (lc:Nat) (L:List AlX) (bs:List Nat) (D:DataW Unit) (wA w:World) (hA:Below wA.heap.size wA w) (hAB:wA.heap.size≤base) (hbase:base≤w.heap.size) (h_p:zbY q wA a_p r.pats) (hN:NS kl w base gb mb la lc L bs D) (hp6:r.pats.length≤6) (ht6:∀ p∈r.pats,p.terms.length≤6) (hle:∀ p∈r.pats,Pt.le 1048576 p) (hvo:∀ p∈r.pats,∀ t∈p.terms,VOk t.val) (hL:L.length≤900) (h6:∀ x∈L,x.1.tests.length≤6) :
  Calls Tryz.prog 52 #[.agg #[.string r.name,.int .i64 r.sal,.slice a_p r.pats.length c_p,.slice a_e r.exprs.length c_e,.slice a_c r.acts.length c_c],.pointer (some ⟨gb,0,none⟩)] w (znU kl base gb mb la lc L bs r w):=by
 have HBL:=hidP (show ∀ wr,Fr3 gb mb (Value.slice la L.length lc).ownBlock w wr→Below wA.heap.size wA wr from fun wr hf=>hA.trans (hf.below (by omega) (Nat.le_trans hAB hN.gbase.1) (Nat.le_trans hAB hN.gbase.2) (fun k hk=>Nat.le_trans hAB (hN.row.lt k hk).1)))
 have HP:=hidP h_p
 have HN:=hidP hN
 have HT6:=hidP ht6
 have HLE:=hidP hle
 have HVO:=hidP hvo
 have H6:=hidP h6
 clear h_p hN ht6 hle hvo hA h6
 go_enter Tryz.func52,Tryz.ntmps52
 go_upto_region 2 with fail
 refine lift3P ?_
 intro w0 hW0 hq0 hq1 hq2
 have f2:w0.cell? ⟨w.heap.size,2,none⟩=some (.slice a_p r.pats.length c_p):=by simp [World.cell?,hq0]
 obtain ⟨rb,hrb⟩:∃ b,b=w.heap.size+1:=⟨_,rfl⟩
 obtain ⟨pb,hpb⟩:∃ b,b=rb+1:=⟨_,rfl⟩
 rw [← hrb] at hq1 ⊢
 rw [show w.heap.size+2=pb by omega] at hq2
 rw [← hpb]
 have RB0:=hidP (show PlB w0 rb (.slice none 0 0) (.slice none 0 0) from hq1)
 have PS0:=hidP (show PS kl w (Value.slice la L.length lc).ownBlock bs (L.map Prod.fst) base gb mb pb la lc L bs D none 0 none 0 [] [] w0 from ⟨HN.out.bel hW0,⟨hq2,World.ownsRow_nil _ _ _ _,World.ownsRow_nil _ _ _ _,fun c hc=>by simp at hc,fun c hc=>by simp at hc⟩,Fr3.of_below hW0,fun g hg=>.inl hg,fun _ _ h=>h,fun _ _ h=>h,H6.out⟩)
 have hpbw:w.heap.size≤pb:=by omega
 have hrp:rb<pb:=by omega
 have hrw0:w.heap.size≤rb:=by omega
 clear hW0 hq0 hq1 hq2 hrb hpb
 go_wp2_with fail
 clear f2
 go_loopw [13,6] (fun iv cv wr=>∃ (k n:Nat) (la':Option Addr) (lc':Nat) (L':List AlX) (bs':List Nat) (D':DataW Unit) (ca:Option Addr) (cc:Nat) (va:Option Addr) (vc:Nat) (X:List Cx) (U:List Vr),iv=.int .i64 (k:Int)∧cv=.int .i64 (n:Int)∧k≤r.pats.length∧zax r.pats [] 0=X.map Cx.cp ++ zax (r.pats.drop k) U n∧zaK r.pats [] 0=zaK (r.pats.drop k) U n∧L'.length≤L.length+k∧X.length≤k∧U.length≤6 * k∧n≤k∧PS kl w (Value.slice la L.length lc).ownBlock bs (L.map Prod.fst) base gb mb pb la' lc' L' bs' D' ca cc va vc X U wr∧PlB wr rb (.slice none 0 0) (.slice none 0 0)) (fun iv _ _=>r.pats.length - (intOf iv).toNat)
 case atStart=>exact ⟨0,0,la,lc,L,bs,D,none,0,none,0,[],[],rfl,rfl,Nat.zero_le _,rfl,rfl,Nat.le_refl _,Nat.le_refl _,Nat.le_refl _,Nat.le_refl _,PS0.out,RB0.out⟩
 case round=>
  obtain ⟨L0,hL0⟩:∃ v,v=L:=⟨L,rfl⟩
  obtain ⟨bs0,hbs0⟩:∃ v,v=bs:=⟨bs,rfl⟩
  obtain ⟨R0,hR0⟩:∃ v,v=(Value.slice la L.length lc).ownBlock:=⟨_,rfl⟩
  rw [← hR0] at hrel HBL
  rw [← hbs0] at hrel
  rw [← hL0] at hrel
  have hL0b:L0.length≤900:=by rw [hL0];exact hL
  have hLL:L0.length≤L.length:=by rw [hL0];exact Nat.le_refl _
  have HR0:=hidP hR0
  have HL0:=hidP hL0
  have HB0:=hidP hbs0
  obtain ⟨k,n,la,lc,L,bs,D,ca,cc,va,vc,X,U,rfl,rfl,hkl,hG,hVG,hLl,hXk,hUk,hnk',hPS,hRB⟩:=hrel
  have HG:=hidP hG
  have HVR:=hidP hVG
  have PSR:=hidP hPS
  have RBR:=hidP hRB
  have hsr:=hPS.fr.rest.size
  have hpr:pb<wr.heap.size:=zab hPS.pn.box
  clear hG hVG hPS hRB PS0 RB0
  clear hR0 hL0 hbs0
  by_cases hk:k<r.pats.length
  ·obtain ⟨p,hp⟩:∃ p,r.pats[k]?=some p:=⟨r.pats[k],by simp [hk]⟩
   obtain ⟨mb',mo,a_t,c_t,rfl,_,y0,y1,y2,h_t,hct⟩:=HP.out.getC hp
   have AR:=HBL.out _ PSR.out.fr
   have x0:=zaa AR y0
   have x1:=zaa AR y1
   have x2:=zaa AR y2
   have HTM:=hidP h_t
   have hpm:=List.mem_of_getElem? hp
   have HDR:=hidP (zan hp)
   have hpt:=HT6.out p hpm
   have HPL:=hidP (HLE.out p hpm)
   have HPV:=hidP (HVO.out p hpm)
   have v0:(0:Int)≤(k:Int):=by omega
   have v1:(k:Int)<(r.pats.length:Int):=by omega
   have HOF:=hidP (fun w' (h:PS kl w R0 bs0 (L0.map Prod.fst) base gb mb pb la lc L bs D ca cc va vc X U w')=>znI kl K p a_t c_t base gb mb la lc L bs D w' h.ns (HTM.out.below (HBL.out _ h.fr)) (Nat.le_trans HPL.out.1 (by decide)) ⟨Nat.le_trans HPL.out.2.1 (by decide),fun t ht=>⟨Nat.le_trans (HPL.out.2.2 t ht).1 (by decide),Nat.le_trans (HPL.out.2.2 t ht).2 (by decide)⟩⟩ HPL.out.2.1 hct HPV.out (by omega) (Nat.le_trans hbase h.fr.rest.size))
   have HJT:=hidP (fun w' la lc L bs D (h:PS kl w R0 bs0 (L0.map Prod.fst) base gb mb pb la lc L bs D ca cc va vc X U w')=>zgA pb p a_t c_t va vc U w' h.pn.box.facts.1.2 (zfm.owns h.pn.vars) (HTM.out.below (HBL.out _ h.fr)) hct (by omega) (by omega))
   clear y0 y1 y2 h_t hp AR hpm HPL HPV
   go_upto_region 6 with fail
   refine zaj ?_
   intro w5 hW5 hq5
   obtain ⟨tb,htb⟩:∃ b,b=wr.heap.size:=⟨_,rfl⟩
   rw [← htb] at hq5 ⊢
   obtain ⟨d0,d1,d2⟩:=cells3P hq5
   have PSd:=hidP ((PSR.out.bel hW5).bel (Below.refl _ _).drew)
   have BXd:=hidP (show w5.drew.heap[tb]?=some (.cells #[.bool p.neg,.string p.cls,.slice a_t p.terms.length c_t] 38 (0,0)) from hq5)
   have RBd:=hidP (show PlB w5.drew rb (.slice none 0 0) (.slice none 0 0) from (show PlB w5 rb (.slice none 0 0) (.slice none 0 0) from RBR.out.bel hW5))
   have hs5:=hW5.size
   have hptb:pb<tb:=by omega
   have HCO:=hidP (fun g (hg:(Value.slice ca X.length cc).ownBlock=some g)=>(PSd.out.pn.conds.lt g hg).2)
   replace HCO:=hidP (show ∀ g,(Value.slice ca X.length cc).ownBlock=some g→g<w5.heap.size from HCO.out)
   clear hW5 hq5 htb x0 x1 x2 PSR RBR
   go_wp2_with fail
   refine wp_region_noPanic ?_
   refine wp_region_held_drew (S:=(fun w'=>w'.cell? ⟨tb,0,none⟩=some (.bool p.neg)∧w'.cell? ⟨tb,1,none⟩=some (.string p.cls)∧w'.cell? ⟨tb,2,none⟩=some (.slice a_t p.terms.length c_t))) (by kernel_rfl) ?_ (fun hHeld=>?_)
   ·(try dsimp only)
    exact ⟨d0,d1,d2⟩
   refine tk 0 hHeld ?_
   (try simp only [pA,pZ,pS])
   refine tk 1 hHeld ?_
   (try simp only [pA,pZ,pS])
   refine tk 2 hHeld ?_
   (try simp only [pA,pZ,pS])
   refine tk 3 hHeld ?_
   (try simp only [pA,pZ,pS])
   refine tk 4 hHeld ?_
   (try simp only [pA,pZ,pS])
   refine tk 6 hHeld ?_
   (try simp only [pA,pZ,pS])
   refine wpAnyH_ready (rs:=[5,9]) (by kernel_rfl) (by simp) ?_
   refine AllReadyH.cons (o:=?o1) ?ho1 (fun K hK=>?step1) (AllReadyH.cons (o:=?o2) ?ho2 (fun K hK=>?step2) AllReadyH.nil)
   case ho1=>(simp only [List.getElem?_toArray,List.getElem?_cons_succ,List.getElem?_cons_zero];rfl)
   case ho2=>(simp only [List.getElem?_toArray,List.getElem?_cons_succ,List.getElem?_cons_zero];rfl)
   case step1=>
    go_simp
    (go_at_call 32;refine (HOF.out _ PSd.out).mono ?_;rintro e' w6 ⟨la3,lc3,L3,bs3,D3,nk,rfl,hns,hL3,hnk,hfo,hex,hrw⟩)
    (try go_wp2_with fail)
    refine hK.out _ _ ?hS3 (fun hHeld=>?_)
    case hS3=>((try dsimp only);exact cells3P (hfo.box BXd.out PSd.out.ns (by decide) (by decide)))
    clear hK K
    (first | simp only [pA,pZ,pS] | simp only [pN] | skip)
    have PSo:=hidP (PSd.out.of hns (zc0 p) hL3 hfo hex hrw)
    have BXo:=hidP (hfo.box BXd.out PSd.out.ns (by decide) (by decide))
    have RBo:=hidP (show PlB w6 rb (.slice none 0 0) (.slice none 0 0) from hfo.box RBd.out PSd.out.ns (by decide) (by decide))
    have HND:=hidP (show ∃ i:Nat,(L3.map Prod.fst)[i]?=some (zaB p)∧bs3[i]?=some nk from ⟨_,by rw [hL3];exact zkN _ _,hnk⟩)
    have hL3b:L3.length≤L.length+1:=by
     have h1:=congrArg List.length hL3
     have h2:=ziX (L.map Prod.fst) (zaB p)
     simp at h1 h2
     omega
    have hso:w5.heap.size≤w6.heap.size:=hfo.rest.size
    clear hns hL3 hnk hfo hex hrw
    obtain ⟨x0,x1,x2⟩:=cells3P BXo.out
    refine wpAnyH_ready (rs:=[7,9]) (by kernel_rfl) (by simp) ?_
    refine AllReadyH.cons (o:=?o4) ?ho4 (fun K hK=>?step4) (AllReadyH.cons (o:=?o5) ?ho5 (fun K hK=>?step5) AllReadyH.nil)
    case ho4=>(simp only [List.getElem?_toArray,List.getElem?_cons_succ,List.getElem?_cons_zero];rfl)
    case ho5=>(simp only [List.getElem?_toArray,List.getElem?_cons_succ,List.getElem?_cons_zero];rfl)
    case step4=>
     go_simp
     (go_at_call 92;refine (HJT.out _ _ _ _ _ _ PSo.out).mono ?_;rintro e'' w7 ⟨⟨ta,tc,rfl,hto⟩,hbj⟩)
     (try go_wp2_with fail)
     refine hK.out _ _ ?hS6 (fun hHeld=>?_)
     case hS6=>((try dsimp only);exact ⟨zaa hbj x0,zaa hbj x1,zaa hbj x2⟩)
     clear hK K
     (first | simp only [pA,pZ,pS] | simp only [pN] | skip)
     have PSm:=hidP (PSo.out.bel hbj)
     have BXm:=hidP ((hbj.block _ (zab BXo.out)).trans BXo.out)
     have RBm:=hidP (RBo.out.bel hbj)
     have TOm:=hidP (zar hto (show w.heap.size≤w6.heap.size by omega))
     have hsj:=hbj.size
     clear hto hbj x0 x1 x2 PSo BXo RBo
     refine tk 8 hHeld ?_
     (try simp only [pA,pZ,pS])
     have HWm:=hidP (fun o'=>(Below.refl _ _).alloc (Nat.le_refl _) o':∀ o',Below w7.heap.size w7 (w7.alloc o'))
     obtain ⟨m0,m1,m2⟩:=cells3P BXm.out
     refine wpAnyH_ready (rs:=[9]) (by kernel_rfl) (by simp) ?_
     refine AllReadyH.cons (List.getElem?_toArray.trans rfl) (fun K hK=>?_) AllReadyH.nil
     go_simp
     refine hK.out _ _ ?hS8 (fun hHeld=>?_)
     case hS8=>((try dsimp only);exact ⟨zaa (HWm.out _) m0,zaa (HWm.out _) m1,zaa (HWm.out _) m2⟩)
     clear hK K
     (first | simp only [pA,pZ,pS] | simp only [pN] | skip)
     refine wpAnyH_ready (rs:=[10]) (by kernel_rfl) (by simp) ?_
     refine AllReadyH.cons (List.getElem?_toArray.trans rfl) (fun K hK=>?_) AllReadyH.nil
     go_simp
     refine hK.out _ _ ?hS10 (fun hHeld=>?_)
     case hS10=>((try dsimp only);exact ⟨zaa (HWm.out _) m0,zaa (HWm.out _) m1,zaa (HWm.out _) m2⟩)
     clear hK K
     (first | simp only [pA,pZ,pS] | simp only [pN] | skip)
     refine wpAnyH_done (by kernel_rfl) ?_ _
     refine NoPanic.normal ?_
     go_upto_region 7 with fail
     refine zaj ?_
     intro w8 hW8 hq8
     obtain ⟨c0,c1,c2,c3⟩:=cells4P hq8
     have PS8:=hidP (PSm.out.bel hW8)
     have BX8:=hidP ((hW8.block _ (zab BXm.out)).trans BXm.out)
     have RB8:=hidP (RBm.out.bel hW8)
     have TO8:=hidP (zai TOm.out hW8)
     have hs8:=hW8.size
     clear hW8 hq8 m0 m1 m2 HWm
     have htb8:tb<w8.heap.size:=zab BX8.out
     clear d0 d1 d2 HOF HJT hHeld
     obtain ⟨⟨q0,q1⟩,_,hpl⟩:=PS8.out.pn.box.facts
     have HW:=hidP (fun o=>(Below.refl _ _).alloc (Nat.le_refl _) o:∀ o,Below w8.heap.size w8 (w8.alloc o))
     have q0':∀ o,(w8.alloc o).cell? ⟨pb,0,none⟩=some (.slice ca X.length cc):=fun o=>zaa (HW.out o) q0
     have TY:=hidP (fun o g hg=>zah (zai PS8.out.pn.conds (HW.out o)) (k:=g) hg)
     have PBA:=hidP (fun o=>PS8.out.pn.box.bel (HW.out o))
     have RBA:=hidP (fun o=>RB8.out.bel (HW.out o))
     have BXA:=hidP (fun o=>((HW.out o).block _ (zab BX8.out)).trans BX8.out)
     have hBw8:w.heap.size≤w8.heap.size:=by omega
     go_upto_region 8 with (first | (at_builtin;refine zae (by rfl) (.tmp 27) (.tmp 29) 68 (by rfl) w.heap.size 140 _ 4 48 Tryz.underlying68 zkQ (by rfl) (by omega) _ X.length _ (by rfl) (zai PS8.out.pn.conds (HW.out _)) (some ⟨_,0,none⟩) 1 1 (by rfl) (zb2 ⟨⟨p.neg,n,zaB p,zat U p.terms p.terms.length⟩,nk,ta,tc⟩) (by rfl) (fun e=>by cases e) (zaw _ _ _ _ (by first | rfl | simp)) (zkf _) (by unfold maxLen;omega) (by omega) (Nat.le_trans hBw8 (HW.out _).size) ?_;intro a9 c9 w9 ho9 hg9 hl9;have P9:=hidP (show PlB w9 pb (.slice ca X.length cc) (.slice va U.length vc) from zaL (PBA.out _) hg9.out (TY.out _) (by decide));have R9:=hidP (show PlB w9 rb (.slice none 0 0) (.slice none 0 0) from zaL (RBA.out _) hg9.out (TY.out _) (by decide));have B9:=hidP (zaL (BXA.out _) hg9.out (TY.out _) (by decide));obtain ⟨⟨l0,l1⟩,z,_⟩:=P9.out.facts;have z0':=z 0;clear z) | fail)
     refine zgx P9.out ?_
     intro w10 hP10 ht10
     obtain ⟨cx,hcx⟩:∃ c:Cx,c=⟨⟨p.neg,n,zaB p,zat U p.terms p.terms.length⟩,nk,ta,tc⟩:=⟨_,rfl⟩
     have PS10:=hidP (PS8.out.push (c:=⟨⟨p.neg,n,zaB p,zat U p.terms p.terms.length⟩,nk,ta,tc⟩) TO8.out HND.out hpbw ho9.out hg9.out hP10 ht10)
     rw [← hcx] at PS10
     have HCX:=hidP hcx
     clear hcx
     have RB10:=hidP (show PlB w10 rb (.slice none 0 0) (.slice none 0 0) from (ht10.block rb (by omega)).trans R9.out)
     have BX10:=hidP ((ht10.block tb (by omega)).trans B9.out)
     obtain ⟨e0,e1,e2⟩:=cells3P BX10.out
     clear hP10 ht10 c0 c1 c2 c3 q0 q1 q0' l0 l1 z0' HW TY PBA RBA BXA P9 R9 B9 PS8 BX8 RB8 TO8 ho9 hg9 hl9
     rcases (show p.neg=false∨p.neg=true by cases p.neg <;> simp) with hneg | hneg
     ·have HPG:=hidP (show zax r.pats [] 0=(X ++ [cx]).map Cx.cp ++ zax (r.pats.drop (k+1)) (zao U p.terms n p.terms.length) (n+1) by rw [HG.out,HDR.out,zbP,if_neg (by rw [hneg];simp),HCX.out];simp)
      have HVG:=hidP (show zaK r.pats [] 0=zaK (r.pats.drop (k+1)) (zao U p.terms n p.terms.length) (n+1) by rw [HVR.out,HDR.out,zbU,if_neg (by rw [hneg];simp)])
      have HBI:=hidP (zdj pb n p a_t c_t va vc U (.slice a9 (X ++ [cx]).length c9) w.heap.size wA w10 (HBL.out _ PS10.out.fr) HTM.out PS10.out.pn.box PS10.out.pn.vars (by omega) (by omega) PS10.out.fr.rest.size (by omega) (by omega))
      rw [hneg] at HBI e0
      clear hneg HG HVR HDR
      go_wp2_with fail
      refine HBI.out.mono ?_
      rintro e w11 ⟨rfl,⟨va',vc',hP11,hO11,_⟩,hF11,hA11⟩
      have PS11:=hidP (PS10.out.bindP hpbw hP11 hO11 hF11)
      have RB11:=hidP (show PlB w11 rb (.slice none 0 0) (.slice none 0 0) from (hF11.block rb (zab RB10.out) (by omega) (fun e=>by obtain ⟨c',hc'⟩:=zah PS10.out.pn.vars e;exact zaF hc' RB10.out (by decide))).trans RB10.out)
      have hU11:=zcj U p.terms n p.terms.length
      clear hP11 hO11 hF11 hA11 HBI PS10 RB10 BX10 e0 e1 e2
      go_wp2_with fail
      have PSX:=PS11.out
      rw [HR0.out,HB0.out,HL0.out] at PSX
      have PSX':=hidP PSX
      clear PSX
      go_roundw
      case rel=>exact ⟨k+1,n+1,la3,lc3,L3,bs3,D3,a9,c9,va',vc',_,_,by go_num,by go_num,by omega,HPG.out,HVG.out,by omega,by simp;omega,by omega,by omega,PSX'.out,RB11.out⟩
      case measure=>(simp [intOf];omega)
     ·have HPG:=hidP (show zax r.pats [] 0=(X ++ [cx]).map Cx.cp ++ zax (r.pats.drop (k+1)) U n by rw [HG.out,HDR.out,zbP,if_pos hneg,HCX.out];simp)
      have HVG:=hidP (show zaK r.pats [] 0=zaK (r.pats.drop (k+1)) U n by rw [HVR.out,HDR.out,zbU,if_pos hneg])
      rw [hneg] at e0
      clear hneg HG HVR HDR
      go_wp2_with fail
      have PSX:=PS10.out
      rw [HR0.out,HB0.out,HL0.out] at PSX
      have PSX':=hidP PSX
      clear PSX
      go_roundw
      case rel=>exact ⟨k+1,n,la3,lc3,L3,bs3,D3,a9,c9,va,vc,_,U,by go_num,rfl,by omega,HPG.out,HVG.out,by omega,by simp;omega,by omega,by omega,PSX'.out,RB10.out⟩
      case measure=>(simp [intOf];omega)
    case step5=>
     have HWo:=hidP (fun o'=>(Below.refl _ _).alloc (Nat.le_refl _) o':∀ o',Below w6.heap.size w6 (w6.alloc o'))
     go_simp
     refine hK.out _ _ ?hS11 (fun hHeld=>?_)
     case hS11=>((try dsimp only);exact ⟨zaa (HWo.out _) x0,zaa (HWo.out _) x1,zaa (HWo.out _) x2⟩)
     clear hK K
     (first | simp only [pA,pZ,pS] | simp only [pN] | skip)
     refine wpAnyH_ready (rs:=[7]) (by kernel_rfl) (by simp) ?_
     refine AllReadyH.cons (List.getElem?_toArray.trans rfl) (fun K hK=>?_) AllReadyH.nil
     go_simp
     (go_at_call 92;refine (HJT.out _ _ _ _ _ _ (PSo.out.bel (HWo.out _))).mono ?_;rintro e'' w7 ⟨⟨ta,tc,rfl,hto⟩,hbj⟩)
     (try go_wp2_with fail)
     refine hK.out _ _ ?hS13 (fun hHeld=>?_)
     case hS13=>((try dsimp only);exact ⟨zaa hbj (zaa (HWo.out _) x0),zaa hbj (zaa (HWo.out _) x1),zaa hbj (zaa (HWo.out _) x2)⟩)
     clear hK K
     (first | simp only [pA,pZ,pS] | simp only [pN] | skip)
     have hbj':=(HWo.out _).trans (hbj.mono (HWo.out _).size)
     have PSm:=hidP (PSo.out.bel hbj')
     have BXm:=hidP ((hbj'.block _ (zab BXo.out)).trans BXo.out)
     have RBm:=hidP (RBo.out.bel hbj')
     have hsj:=hbj.size
     simp at hsj
     have TOm:=hidP (zar hto (show w.heap.size≤_ by simp;omega))
     have ZBm:=hidP (show w7.heap[w6.heap.size]?=some (.cells #[.bool false,.int .i64 0,.pointer none,.slice none 0 0] 140 (0,0)) from (hbj.block w6.heap.size (by simp)).trans (heap_alloc_new _ _))
     clear hto hbj hbj' x0 x1 x2 PSo BXo RBo HWo
     refine tk 8 hHeld ?_
     (try simp only [pA,pZ,pS])
     obtain ⟨m0,m1,m2⟩:=cells3P BXm.out
     obtain ⟨o0,o1,o2,o3⟩:=cells4P ZBm.out
     have s0:w7.frozen? ⟨w6.heap.size,0,none⟩=false:=by simp [World.frozen?,ZBm.out]
     have s1:w7.frozen? ⟨w6.heap.size,1,none⟩=false:=by simp [World.frozen?,ZBm.out]
     have s2:w7.frozen? ⟨w6.heap.size,2,none⟩=false:=by simp [World.frozen?,ZBm.out]
     have s3:w7.frozen? ⟨w6.heap.size,3,none⟩=false:=by simp [World.frozen?,ZBm.out]
     have HLF:=hidP (fun wt (ht:Turned w7 wt w6.heap.size)=>cells3P (zcw BXm.out ZBm.out ht (by decide)))
     refine wpAnyH_ready (rs:=[10]) (by kernel_rfl) (by simp) ?_
     refine AllReadyH.cons (List.getElem?_toArray.trans rfl) (fun K hK=>?_) AllReadyH.nil
     go_simp
     refine hK.out _ _ ?hS15 (fun hHeld=>?_)
     case hS15=>((try dsimp only);exact HLF.out _ (Turned.setCells [_,_,_,_] 0 w7 _))
     clear hK K
     (first | simp only [pA,pZ,pS] | simp only [pN] | skip)
     refine wpAnyH_done (by kernel_rfl) ?_ _
     refine NoPanic.normal ?_
     go_upto_region 7 with fail
     refine ziZ ZBm.out ?_
     intro w8 hq8 hT8
     obtain ⟨c0,c1,c2,c3⟩:=cells4P hq8
     have PS8:=hidP (PSm.out.fill ZBm.out hT8 (fun g hg=>by have:=HCO.out g hg;omega) (by omega))
     have BX8:=hidP (zcw BXm.out ZBm.out hT8 (by decide))
     have RB8:=hidP (show PlB w8 rb (.slice none 0 0) (.slice none 0 0) from zcw RBm.out ZBm.out hT8 (by decide))
     have TO8:=hidP (zbF TOm.out ZBm.out hT8 (by decide))
     have hs8:w7.heap.size≤w8.heap.size:=Nat.le_of_eq hT8.size.symm
     clear hT8 hq8 m0 m1 m2 o0 o1 o2 o3 s0 s1 s2 s3 HLF ZBm
     have htb8:tb<w8.heap.size:=zab BX8.out
     clear d0 d1 d2 HOF HJT hHeld
     obtain ⟨⟨q0,q1⟩,_,hpl⟩:=PS8.out.pn.box.facts
     have HW:=hidP (fun o=>(Below.refl _ _).alloc (Nat.le_refl _) o:∀ o,Below w8.heap.size w8 (w8.alloc o))
     have q0':∀ o,(w8.alloc o).cell? ⟨pb,0,none⟩=some (.slice ca X.length cc):=fun o=>zaa (HW.out o) q0
     have TY:=hidP (fun o g hg=>zah (zai PS8.out.pn.conds (HW.out o)) (k:=g) hg)
     have PBA:=hidP (fun o=>PS8.out.pn.box.bel (HW.out o))
     have RBA:=hidP (fun o=>RB8.out.bel (HW.out o))
     have BXA:=hidP (fun o=>((HW.out o).block _ (zab BX8.out)).trans BX8.out)
     have hBw8:w.heap.size≤w8.heap.size:=by omega
     go_upto_region 8 with (first | (at_builtin;refine zae (by rfl) (.tmp 27) (.tmp 29) 68 (by rfl) w.heap.size 140 _ 4 48 Tryz.underlying68 zkQ (by rfl) (by omega) _ X.length _ (by rfl) (zai PS8.out.pn.conds (HW.out _)) (some ⟨_,0,none⟩) 1 1 (by rfl) (zb2 ⟨⟨p.neg,n,zaB p,zat U p.terms p.terms.length⟩,nk,ta,tc⟩) (by rfl) (fun e=>by cases e) (zaw _ _ _ _ (by first | rfl | simp)) (zkf _) (by unfold maxLen;omega) (by omega) (Nat.le_trans hBw8 (HW.out _).size) ?_;intro a9 c9 w9 ho9 hg9 hl9;have P9:=hidP (show PlB w9 pb (.slice ca X.length cc) (.slice va U.length vc) from zaL (PBA.out _) hg9.out (TY.out _) (by decide));have R9:=hidP (show PlB w9 rb (.slice none 0 0) (.slice none 0 0) from zaL (RBA.out _) hg9.out (TY.out _) (by decide));have B9:=hidP (zaL (BXA.out _) hg9.out (TY.out _) (by decide));obtain ⟨⟨l0,l1⟩,z,_⟩:=P9.out.facts;have z0':=z 0;clear z) | fail)
     refine zgx P9.out ?_
     intro w10 hP10 ht10
     obtain ⟨cx,hcx⟩:∃ c:Cx,c=⟨⟨p.neg,n,zaB p,zat U p.terms p.terms.length⟩,nk,ta,tc⟩:=⟨_,rfl⟩
     have PS10:=hidP (PS8.out.push (c:=⟨⟨p.neg,n,zaB p,zat U p.terms p.terms.length⟩,nk,ta,tc⟩) TO8.out HND.out hpbw ho9.out hg9.out hP10 ht10)
     rw [← hcx] at PS10
     have HCX:=hidP hcx
     clear hcx
     have RB10:=hidP (show PlB w10 rb (.slice none 0 0) (.slice none 0 0) from (ht10.block rb (by omega)).trans R9.out)
     have BX10:=hidP ((ht10.block tb (by omega)).trans B9.out)
     obtain ⟨e0,e1,e2⟩:=cells3P BX10.out
     clear hP10 ht10 c0 c1 c2 c3 q0 q1 q0' l0 l1 z0' HW TY PBA RBA BXA P9 R9 B9 PS8 BX8 RB8 TO8 ho9 hg9 hl9
     rcases (show p.neg=false∨p.neg=true by cases p.neg <;> simp) with hneg | hneg
     ·have HPG:=hidP (show zax r.pats [] 0=(X ++ [cx]).map Cx.cp ++ zax (r.pats.drop (k+1)) (zao U p.terms n p.terms.length) (n+1) by rw [HG.out,HDR.out,zbP,if_neg (by rw [hneg];simp),HCX.out];simp)
      have HVG:=hidP (show zaK r.pats [] 0=zaK (r.pats.drop (k+1)) (zao U p.terms n p.terms.length) (n+1) by rw [HVR.out,HDR.out,zbU,if_neg (by rw [hneg];simp)])
      have HBI:=hidP (zdj pb n p a_t c_t va vc U (.slice a9 (X ++ [cx]).length c9) w.heap.size wA w10 (HBL.out _ PS10.out.fr) HTM.out PS10.out.pn.box PS10.out.pn.vars (by omega) (by omega) PS10.out.fr.rest.size (by omega) (by omega))
      rw [hneg] at HBI e0
      clear hneg HG HVR HDR
      go_wp2_with fail
      refine HBI.out.mono ?_
      rintro e w11 ⟨rfl,⟨va',vc',hP11,hO11,_⟩,hF11,hA11⟩
      have PS11:=hidP (PS10.out.bindP hpbw hP11 hO11 hF11)
      have RB11:=hidP (show PlB w11 rb (.slice none 0 0) (.slice none 0 0) from (hF11.block rb (zab RB10.out) (by omega) (fun e=>by obtain ⟨c',hc'⟩:=zah PS10.out.pn.vars e;exact zaF hc' RB10.out (by decide))).trans RB10.out)
      have hU11:=zcj U p.terms n p.terms.length
      clear hP11 hO11 hF11 hA11 HBI PS10 RB10 BX10 e0 e1 e2
      go_wp2_with fail
      have PSX:=PS11.out
      rw [HR0.out,HB0.out,HL0.out] at PSX
      have PSX':=hidP PSX
      clear PSX
      go_roundw
      case rel=>exact ⟨k+1,n+1,la3,lc3,L3,bs3,D3,a9,c9,va',vc',_,_,by go_num,by go_num,by omega,HPG.out,HVG.out,by omega,by simp;omega,by omega,by omega,PSX'.out,RB11.out⟩
      case measure=>(simp [intOf];omega)
     ·have HPG:=hidP (show zax r.pats [] 0=(X ++ [cx]).map Cx.cp ++ zax (r.pats.drop (k+1)) U n by rw [HG.out,HDR.out,zbP,if_pos hneg,HCX.out];simp)
      have HVG:=hidP (show zaK r.pats [] 0=zaK (r.pats.drop (k+1)) U n by rw [HVR.out,HDR.out,zbU,if_pos hneg])
      rw [hneg] at e0
      clear hneg HG HVR HDR
      go_wp2_with fail
      have PSX:=PS10.out
      rw [HR0.out,HB0.out,HL0.out] at PSX
      have PSX':=hidP PSX
      clear PSX
      go_roundw
      case rel=>exact ⟨k+1,n,la3,lc3,L3,bs3,D3,a9,c9,va,vc,_,U,by go_num,rfl,by omega,HPG.out,HVG.out,by omega,by simp;omega,by omega,by omega,PSX'.out,RB10.out⟩
      case measure=>(simp [intOf];omega)
   case step2=>
    have HWd:=hidP (fun o'=>(Below.refl _ _).alloc (Nat.le_refl _) o':∀ o',Below w5.drew.heap.size w5.drew (w5.drew.alloc o'))
    have HWe:=hidP (fun o'=>(Below.refl _ _).drew.alloc (by simp) o':∀ o',Below w5.heap.size w5 (w5.drew.alloc o'))
    go_simp
    refine hK.out _ _ ?hS16 (fun hHeld=>?_)
    case hS16=>((try dsimp only);exact ⟨zaa (HWe.out _) d0,zaa (HWe.out _) d1,zaa (HWe.out _) d2⟩)
    clear hK K
    (first | simp only [pA,pZ,pS] | simp only [pN] | skip)
    have PSa:=hidP (fun o'=>PSd.out.bel (HWd.out o'))
    have BXa:=hidP (fun o'=>((HWd.out o').block _ (zab BXd.out)).trans BXd.out)
    have RBa:=hidP (fun o'=>RBd.out.bel (HWd.out o'))
    refine wpAnyH_ready (rs:=[5]) (by kernel_rfl) (by simp) ?_
    refine AllReadyH.cons (List.getElem?_toArray.trans rfl) (fun K hK=>?_) AllReadyH.nil
    go_simp
    (go_at_call 32;refine (HOF.out _ (PSa.out _)).mono ?_;rintro e' w6 ⟨la3,lc3,L3,bs3,D3,nk,rfl,hns,hL3,hnk,hfo,hex,hrw⟩)
    (try go_wp2_with fail)
    refine hK.out _ _ ?hS18 (fun hHeld=>?_)
    case hS18=>((try dsimp only);exact cells3P (hfo.box (BXa.out _) (PSa.out _).ns (by decide) (by decide)))
    clear hK K
    (first | simp only [pA,pZ,pS] | simp only [pN] | skip)
    have PSo:=hidP ((PSa.out _).of hns (zc0 p) hL3 hfo hex hrw)
    have BXo:=hidP (hfo.box (BXa.out _) (PSa.out _).ns (by decide) (by decide))
    have RBo:=hidP (show PlB w6 rb (.slice none 0 0) (.slice none 0 0) from hfo.box (RBa.out _) (PSa.out _).ns (by decide) (by decide))
    have ZBo:=hidP (show w6.heap[w5.heap.size]?=some (.cells #[.bool false,.int .i64 0,.pointer none,.slice none 0 0] 140 (0,0)) from hfo.box (heap_alloc_new w5.drew _) (PSa.out _).ns (by decide) (by decide))
    have HND:=hidP (show ∃ i:Nat,(L3.map Prod.fst)[i]?=some (zaB p)∧bs3[i]?=some nk from ⟨_,by rw [hL3];exact zkN _ _,hnk⟩)
    have hL3b:L3.length≤L.length+1:=by
     have h1:=congrArg List.length hL3
     have h2:=ziX (L.map Prod.fst) (zaB p)
     simp at h1 h2
     omega
    have hso:w5.heap.size<w6.heap.size:=zab ZBo.out
    clear hns hL3 hnk hfo hex hrw PSa BXa RBa HWd HWe
    obtain ⟨x0,x1,x2⟩:=cells3P BXo.out
    refine wpAnyH_ready (rs:=[7]) (by kernel_rfl) (by simp) ?_
    refine AllReadyH.cons (List.getElem?_toArray.trans rfl) (fun K hK=>?_) AllReadyH.nil
    go_simp
    (go_at_call 92;refine (HJT.out _ _ _ _ _ _ PSo.out).mono ?_;rintro e'' w7 ⟨⟨ta,tc,rfl,hto⟩,hbj⟩)
    (try go_wp2_with fail)
    refine hK.out _ _ ?hS20 (fun hHeld=>?_)
    case hS20=>((try dsimp only);exact ⟨zaa hbj x0,zaa hbj x1,zaa hbj x2⟩)
    clear hK K
    (first | simp only [pA,pZ,pS] | simp only [pN] | skip)
    have PSm:=hidP (PSo.out.bel hbj)
    have BXm:=hidP ((hbj.block _ (zab BXo.out)).trans BXo.out)
    have RBm:=hidP (RBo.out.bel hbj)
    have ZBm:=hidP ((hbj.block _ (zab ZBo.out)).trans ZBo.out)
    have TOm:=hidP (zar hto (show w.heap.size≤w6.heap.size by omega))
    have hsj:=hbj.size
    clear hto hbj x0 x1 x2 PSo BXo RBo ZBo
    refine tk 8 hHeld ?_
    (try simp only [pA,pZ,pS])
    obtain ⟨m0,m1,m2⟩:=cells3P BXm.out
    obtain ⟨o0,o1,o2,o3⟩:=cells4P ZBm.out
    have s0:w7.frozen? ⟨w5.heap.size,0,none⟩=false:=by simp [World.frozen?,ZBm.out]
    have s1:w7.frozen? ⟨w5.heap.size,1,none⟩=false:=by simp [World.frozen?,ZBm.out]
    have s2:w7.frozen? ⟨w5.heap.size,2,none⟩=false:=by simp [World.frozen?,ZBm.out]
    have s3:w7.frozen? ⟨w5.heap.size,3,none⟩=false:=by simp [World.frozen?,ZBm.out]
    have HLF:=hidP (fun wt (ht:Turned w7 wt w5.heap.size)=>cells3P (zcw BXm.out ZBm.out ht (by decide)))
    refine wpAnyH_ready (rs:=[10]) (by kernel_rfl) (by simp) ?_
    refine AllReadyH.cons (List.getElem?_toArray.trans rfl) (fun K hK=>?_) AllReadyH.nil
    go_simp
    refine hK.out _ _ ?hS22 (fun hHeld=>?_)
    case hS22=>((try dsimp only);exact HLF.out _ (Turned.setCells [_,_,_,_] 0 w7 _))
    clear hK K
    (first | simp only [pA,pZ,pS] | simp only [pN] | skip)
    refine wpAnyH_done (by kernel_rfl) ?_ _
    refine NoPanic.normal ?_
    go_upto_region 7 with fail
    refine ziZ ZBm.out ?_
    intro w8 hq8 hT8
    obtain ⟨c0,c1,c2,c3⟩:=cells4P hq8
    have PS8:=hidP (PSm.out.fill ZBm.out hT8 (fun g hg=>by have:=HCO.out g hg;omega) (by omega))
    have BX8:=hidP (zcw BXm.out ZBm.out hT8 (by decide))
    have RB8:=hidP (show PlB w8 rb (.slice none 0 0) (.slice none 0 0) from zcw RBm.out ZBm.out hT8 (by decide))
    have TO8:=hidP (zbF TOm.out ZBm.out hT8 (by decide))
    have hs8:w7.heap.size≤w8.heap.size:=Nat.le_of_eq hT8.size.symm
    clear hT8 hq8 m0 m1 m2 o0 o1 o2 o3 s0 s1 s2 s3 HLF ZBm
    have htb8:tb<w8.heap.size:=zab BX8.out
    clear d0 d1 d2 HOF HJT hHeld
    obtain ⟨⟨q0,q1⟩,_,hpl⟩:=PS8.out.pn.box.facts
    have HW:=hidP (fun o=>(Below.refl _ _).alloc (Nat.le_refl _) o:∀ o,Below w8.heap.size w8 (w8.alloc o))
    have q0':∀ o,(w8.alloc o).cell? ⟨pb,0,none⟩=some (.slice ca X.length cc):=fun o=>zaa (HW.out o) q0
    have TY:=hidP (fun o g hg=>zah (zai PS8.out.pn.conds (HW.out o)) (k:=g) hg)
    have PBA:=hidP (fun o=>PS8.out.pn.box.bel (HW.out o))
    have RBA:=hidP (fun o=>RB8.out.bel (HW.out o))
    have BXA:=hidP (fun o=>((HW.out o).block _ (zab BX8.out)).trans BX8.out)
    have hBw8:w.heap.size≤w8.heap.size:=by omega
    go_upto_region 8 with (first | (at_builtin;refine zae (by rfl) (.tmp 27) (.tmp 29) 68 (by rfl) w.heap.size 140 _ 4 48 Tryz.underlying68 zkQ (by rfl) (by omega) _ X.length _ (by rfl) (zai PS8.out.pn.conds (HW.out _)) (some ⟨_,0,none⟩) 1 1 (by rfl) (zb2 ⟨⟨p.neg,n,zaB p,zat U p.terms p.terms.length⟩,nk,ta,tc⟩) (by rfl) (fun e=>by cases e) (zaw _ _ _ _ (by first | rfl | simp)) (zkf _) (by unfold maxLen;omega) (by omega) (Nat.le_trans hBw8 (HW.out _).size) ?_;intro a9 c9 w9 ho9 hg9 hl9;have P9:=hidP (show PlB w9 pb (.slice ca X.length cc) (.slice va U.length vc) from zaL (PBA.out _) hg9.out (TY.out _) (by decide));have R9:=hidP (show PlB w9 rb (.slice none 0 0) (.slice none 0 0) from zaL (RBA.out _) hg9.out (TY.out _) (by decide));have B9:=hidP (zaL (BXA.out _) hg9.out (TY.out _) (by decide));obtain ⟨⟨l0,l1⟩,z,_⟩:=P9.out.facts;have z0':=z 0;clear z) | fail)
    refine zgx P9.out ?_
    intro w10 hP10 ht10
    obtain ⟨cx,hcx⟩:∃ c:Cx,c=⟨⟨p.neg,n,zaB p,zat U p.terms p.terms.length⟩,nk,ta,tc⟩:=⟨_,rfl⟩
    have PS10:=hidP (PS8.out.push (c:=⟨⟨p.neg,n,zaB p,zat U p.terms p.terms.length⟩,nk,ta,tc⟩) TO8.out HND.out hpbw ho9.out hg9.out hP10 ht10)
    rw [← hcx] at PS10
    have HCX:=hidP hcx
    clear hcx
    have RB10:=hidP (show PlB w10 rb (.slice none 0 0) (.slice none 0 0) from (ht10.block rb (by omega)).trans R9.out)
    have BX10:=hidP ((ht10.block tb (by omega)).trans B9.out)
    obtain ⟨e0,e1,e2⟩:=cells3P BX10.out
    clear hP10 ht10 c0 c1 c2 c3 q0 q1 q0' l0 l1 z0' HW TY PBA RBA BXA P9 R9 B9 PS8 BX8 RB8 TO8 ho9 hg9 hl9
    rcases (show p.neg=false∨p.neg=true by cases p.neg <;> simp) with hneg | hneg
    ·have HPG:=hidP (show zax r.pats [] 0=(X ++ [cx]).map Cx.cp ++ zax (r.pats.drop (k+1)) (zao U p.terms n p.terms.length) (n+1) by rw [HG.out,HDR.out,zbP,if_neg (by rw [hneg];simp),HCX.out];simp)
     have HVG:=hidP (show zaK r.pats [] 0=zaK (r.pats.drop (k+1)) (zao U p.terms n p.terms.length) (n+1) by rw [HVR.out,HDR.out,zbU,if_neg (by rw [hneg];simp)])
     have HBI:=hidP (zdj pb n p a_t c_t va vc U (.slice a9 (X ++ [cx]).length c9) w.heap.size wA w10 (HBL.out _ PS10.out.fr) HTM.out PS10.out.pn.box PS10.out.pn.vars (by omega) (by omega) PS10.out.fr.rest.size (by omega) (by omega))
     rw [hneg] at HBI e0
     clear hneg HG HVR HDR
     go_wp2_with fail
     refine HBI.out.mono ?_
     rintro e w11 ⟨rfl,⟨va',vc',hP11,hO11,_⟩,hF11,hA11⟩
     have PS11:=hidP (PS10.out.bindP hpbw hP11 hO11 hF11)
     have RB11:=hidP (show PlB w11 rb (.slice none 0 0) (.slice none 0 0) from (hF11.block rb (zab RB10.out) (by omega) (fun e=>by obtain ⟨c',hc'⟩:=zah PS10.out.pn.vars e;exact zaF hc' RB10.out (by decide))).trans RB10.out)
     have hU11:=zcj U p.terms n p.terms.length
     clear hP11 hO11 hF11 hA11 HBI PS10 RB10 BX10 e0 e1 e2
     go_wp2_with fail
     have PSX:=PS11.out
     rw [HR0.out,HB0.out,HL0.out] at PSX
     have PSX':=hidP PSX
     clear PSX
     go_roundw
     case rel=>exact ⟨k+1,n+1,la3,lc3,L3,bs3,D3,a9,c9,va',vc',_,_,by go_num,by go_num,by omega,HPG.out,HVG.out,by omega,by simp;omega,by omega,by omega,PSX'.out,RB11.out⟩
     case measure=>(simp [intOf];omega)
    ·have HPG:=hidP (show zax r.pats [] 0=(X ++ [cx]).map Cx.cp ++ zax (r.pats.drop (k+1)) U n by rw [HG.out,HDR.out,zbP,if_pos hneg,HCX.out];simp)
     have HVG:=hidP (show zaK r.pats [] 0=zaK (r.pats.drop (k+1)) U n by rw [HVR.out,HDR.out,zbU,if_pos hneg])
     rw [hneg] at e0
     clear hneg HG HVR HDR
     go_wp2_with fail
     have PSX:=PS10.out
     rw [HR0.out,HB0.out,HL0.out] at PSX
     have PSX':=hidP PSX
     clear PSX
     go_roundw
     case rel=>exact ⟨k+1,n,la3,lc3,L3,bs3,D3,a9,c9,va,vc,_,U,by go_num,rfl,by omega,HPG.out,HVG.out,by omega,by simp;omega,by omega,by omega,PSX'.out,RB10.out⟩
     case measure=>(simp [intOf];omega)
  ·have hke:k=r.pats.length:=by omega
   subst hke
   have hy:¬ (r.pats.length:Int)<(r.pats.length:Int):=by omega
   obtain ⟨⟨q0,q1⟩,_,_⟩:=PSR.out.pn.box.facts
   obtain ⟨⟨r0,r1⟩,rz,hrl⟩:=RBR.out.facts
   have rz0:=rz 0
   have rz1:=rz 1
   have hXE:zax r.pats [] 0=X.map Cx.cp:=by rw [HG.out,List.drop_length];simp [zax]
   have hUE:zaK r.pats [] 0=U:=by rw [HVR.out,List.drop_length];rfl
   have HXE:=hidP hXE
   have HUE:=hidP hUE
   have hrp':rb≠pb:=by omega
   clear hXE hUE rz
   go_wp2_with fail
   refine bodyPost_ret (v:=.agg #[.slice ca X.length cc,.slice va U.length vc]) (by simp [results,Tryz.results52,go_sem,r0,r1]) rfl ?_
   have ht:Turned wr ((wr.setCell ⟨rb,0,none⟩ (.slice ca X.length cc)).setCell ⟨rb,1,none⟩ (.slice va U.length vc)) rb:=Turned.setCells [_,_] 0 wr rb
   refine ⟨la,lc,L,bs,D,ca,cc,va,vc,X,by rw [HUE.out],HXE.out.symm,PSR.out.ns.turnedC RBR.out ht (by unfold NTy;decide),?_,?_,?_,?_,?_,?_,PSR.out.six⟩
   ·rw [HUE.out]
    exact PSR.out.pn.pd.keptB fun k c t fr hk ht'=>(ht.block k (fun e=>by subst e;exact zaF RBR.out hk (by rcases ht' with rfl | rfl | rfl <;> decide))).trans hk
   ·rw [← HR0.out]
    exact PSR.out.fr.then_below (ht.below hrw0)
   ·rw [← HR0.out]
    exact PSR.out.rw'
   ·rw [← HB0.out]
    exact PSR.out.ext
   ·rw [← HL0.out]
    exact PSR.out.exa
   ·rw [← HL0.out]
    exact hLl
end Go.Proofs.YtmmdlgjmplddiaaGreat
namespace Go.Proofs.YtmmdlgjmplddiaaGreat
open Go.RowKit Go.Maps
structure Px where
 ca:Option Addr
 cc:Nat
 va:Option Addr
 vc:Nat
 X:List Cx
 U:List Vr
def zcP (x:Px):List Value:=[.slice x.ca x.X.length x.cc,.slice x.va x.U.length x.vc]
theorem znK (x:Px):∀ u∈zcP x,u.oneCell'=true:=by
 intro u hu
 simp [zcP] at hu
 rcases hu with rfl | rfl <;> rfl
theorem znL:(Tryz.prog.info? 71).map (fun i=>(i.zero,i.size,i.bytes))=some (some (.agg #[.slice none 0 0,.slice none 0 0]),2,48):=by kernel_rfl
structure PLS (w:World) (B:Nat) (a:Option Addr) (c:Nat) (P:List Px) (A:List Al) (bs:List Nat):Prop where
 row:w.ownsRow B 71 2 (.slice a P.length c) P.length (P.flatMap zcP)
 each:∀ x∈P,PD w B x.ca x.cc x.va x.vc x.X x.U A bs
theorem PLS.keptB {w w':World}{B:Nat}{a:Option Addr}{c:Nat}{P:List Px}{A:List Al}{bs:List Nat} (h:PLS w B a c P A bs) (hb:∀ (k:Nat) (c:Array Value) (t:TypeId) (fr:Nat × Nat),w.heap[k]?=some (.cells c t fr)→(t=71∨t=140∨t=215∨t=182)→w'.heap[k]?=some (.cells c t fr)):PLS w' B a c P A bs:=
 ⟨zaf h.row fun k hk=>by
  obtain ⟨c',hc'⟩:=zah h.row hk
  rw [hb k _ _ _ hc' (.inl rfl),hc'],fun x hx=>(h.each x hx).keptB fun k c t fr hk ht=>hb k c t fr hk (.inr ht)⟩
theorem PLS.bel {w w':World}{B:Nat}{a:Option Addr}{c:Nat}{P:List Px}{A:List Al}{bs:List Nat} (h:PLS w B a c P A bs) (hb:Below w.heap.size w w'):PLS w' B a c P A bs:=
 h.keptB fun k _ _ _ hk _=>(hb.block k (zab hk)).trans hk
theorem PLS.ft {base:Nat}{w w':World}{B:Nat}{a:Option Addr}{c:Nat}{P:List Px}{A:List Al}{bs:List Nat} (h:PLS w B a c P A bs) (hf:FrT base w w'):PLS w' B a c P A bs:=
 h.keptB fun k c t fr hk ht=>hf.kept k c t fr hk (by rcases ht with rfl | rfl | rfl | rfl <;> decide) (by rcases ht with rfl | rfl | rfl | rfl <;> decide)
theorem PD.ext {w:World}{B:Nat}{ca:Option Addr}{cc:Nat}{va:Option Addr}{vc:Nat}{X:List Cx}{U:List Vr}{A A':List Al}{bs bs':List Nat} (h:PD w B ca cc va vc X U A bs) (ha:∀ (i:Nat) (y:Al),A[i]?=some y→A'[i]?=some y) (hb:∀ (i n:Nat),bs[i]?=some n→bs'[i]?=some n):PD w B ca cc va vc X U A' bs':=
 ⟨h.conds,h.vars,h.tests,fun c hc=>by
  obtain ⟨i,h1,h2⟩:=h.nodes c hc
  exact ⟨i,ha i _ h1,hb i _ h2⟩⟩
theorem PD.lower {w:World}{B B':Nat}{ca:Option Addr}{cc:Nat}{va:Option Addr}{vc:Nat}{X:List Cx}{U:List Vr}{A:List Al}{bs:List Nat} (h:PD w B ca cc va vc X U A bs) (hB:B'≤B):PD w B' ca cc va vc X U A bs:=
 ⟨zar h.conds hB,zar h.vars hB,fun c hc=>zar (h.tests c hc) hB,h.nodes⟩
theorem PLS.push {kl:Al→Lit}{w w6 w7:World}{base gb mb B:Nat}{la:Option Addr}{lc:Nat}{L L':List AlX}{bs bs':List Nat}{D:DataW Unit}{a a':Option Addr}{c c':Nat}{P:List Px}{x:Px}{o:Obj} (h:PLS w B a c P (L.map Prod.fst) bs) (hN:NS kl w base gb mb la lc L bs D) (hf:Fr3 gb mb (Value.slice la L.length lc).ownBlock w w6) (he:∀ (i n:Nat),bs[i]?=some n→bs'[i]?=some n) (ha:∀ (i:Nat) (y:Al),(L.map Prod.fst)[i]?=some y→(L'.map Prod.fst)[i]?=some y)
  (hx:PD w6 B x.ca x.cc x.va x.vc x.X x.U (L'.map Prod.fst) bs') (hg:(w6.alloc o).grownBy w7 (Value.slice a P.length c).ownBlock) (ho:w7.ownsRow B 71 2 (.slice a' (P.length+1) c') (P.length+1) (P.flatMap zcP ++ zcP x)):PLS w7 B a' c' (P ++ [x]) (L'.map Prod.fst) bs':=by
 have h6:PLS w6 B a c P (L.map Prod.fst) bs:=h.keptB fun k c t fr hk ht=>hf.box hk hN (by rcases ht with rfl | rfl | rfl | rfl <;> decide) (by rcases ht with rfl | rfl | rfl | rfl <;> decide)
 have hA:Below w6.heap.size w6 (w6.alloc o):=(Below.refl _ _).alloc (Nat.le_refl _) _
 have h7:=h6.bel hA
 have TY:=fun k hk=>zah h7.row (k:=k) hk
 have far:∀ (k:Nat) (c:Array Value) (t:TypeId) (fr:Nat × Nat),(w6.alloc o).heap[k]?=some (.cells c t fr)→(t=140∨t=215∨t=182)→w7.heap[k]?=some (.cells c t fr):=fun k c t fr hk ht=>zaL hk hg TY (by rcases ht with rfl | rfl | rfl <;> decide)
 refine ⟨by simpa using ho,fun y hy=>?_⟩
 rcases List.mem_append.1 hy with hy | hy
 ·exact ((h7.each y hy).ext ha he).keptB far
 ·rw [List.mem_singleton.1 hy]
  exact (hx.bel hA).keptB far
def qUp (a:Option Addr) (fs:List F):Nat→List (Value × F)
 | 0=>[]
 | k+1=>qUp a fs k ++ (match fs[k]?,a with | some f,some ad=>[(.pointer (some ⟨ad.block,ad.off+k * 3,none⟩),f)] | _,_=>[])
theorem zi9 {b o:Nat}{fs:List F}{k:Nat}{f:F} (h:fs[k]?=some f):qUp (some ⟨b,o,none⟩) fs (k+1)=qUp (some ⟨b,o,none⟩) fs k ++ [(.pointer (some ⟨b,o+k * 3,none⟩),f)]:=by simp [qUp,h]
theorem zkB (a:Option Addr) (fs:List F):∀ k,(qUp a fs k).length≤k
 | 0=>Nat.le_refl _
 | k+1=>by
  have h:=zkB a fs k
  simp only [qUp,List.length_append]
  split <;> simp <;> omega
theorem zlB {w:World}{a:Option Addr}{fs:List F} (h:zaG w a fs):∀ k,k≤fs.length→(qUp a fs k).map Prod.snd=fs.take k∧∀ y∈qUp a fs k,zcs w y.1 y.2
 | 0,_=>⟨rfl,fun y hy=>by simp [qUp] at hy⟩
 | k+1,hk=>by
  obtain ⟨h1,h2⟩:=zlB h k (by omega)
  obtain ⟨f,hf⟩:∃ f,fs[k]?=some f:=⟨fs[k],by simp [show k<fs.length by omega]⟩
  obtain ⟨b,o,rfl,c0,c1,a',c,c2,hv⟩:=h k f hf
  rw [zi9 hf]
  refine ⟨by rw [List.map_append,h1,List.take_add_one,hf];rfl,fun y hy=>?_⟩
  rcases List.mem_append.1 hy with hy | hy
  ·exact h2 y hy
  ·rw [List.mem_singleton.1 hy]
   exact ⟨b,o+k * 3,rfl,c0,c1,a',c,c2,hv⟩
theorem zic {x:Al}:∀ (Q:List (Value × F)),(sel x Q).map Prod.snd=(Q.map Prod.snd).filter (passes x)
 | []=>rfl
 | y :: r=>by
  unfold sel
  have ih:=zic (x:=x) r
  unfold sel at ih
  by_cases h:passes x y.2=true
  ·rw [List.filter_cons_of_pos (by simpa using h),List.map_cons,List.map_cons,List.filter_cons_of_pos h,ih]
  ·rw [List.filter_cons_of_neg (by simpa using h),List.map_cons,List.filter_cons_of_neg h,ih]
theorem zdM.owns {w:World}{base:Nat}{a:Option Addr}{c:Nat}{ts:List Jt} (h:w.ownsRow base 182 4 (.slice a ts.length c) ts.length (ts.flatMap zco)):zdM w a ts:=by
 intro i t hi
 have key:=fun j u (hj:(zco t)[j]?=some u)=>zam h (zbe (cells:=zco) (m:=4) (fun _=>rfl) ts i t j u hi hj)
 obtain ⟨k,rfl,_,h0,_⟩:=key 0 _ rfl
 obtain ⟨k1,e1,_,h1,_⟩:=key 1 _ rfl
 obtain ⟨k2,e2,_,h2,_⟩:=key 2 _ rfl
 obtain ⟨k3,e3,_,h3,_⟩:=key 3 _ rfl
 cases e1
 cases e2
 cases e3
 exact ⟨k,0,rfl,by simpa using h0,by simpa using h1,by simpa using h2,by simpa using h3⟩
def cnOf (fs:List F) (c:Cx):Cn:=⟨c.cp.neg,c.cp.at_,c.node,c.cp.tests,c.cp.alpha,fs.filter (passes c.cp.alpha)⟩
theorem zk5 (fs:List F) (c:Cx):CnCp fs (cnOf fs c) c.cp:=⟨rfl,rfl,rfl,rfl,rfl⟩
theorem PD.cns {w:World}{B base gb mb:Nat}{la:Option Addr}{lc:Nat}{L:List AlX}{bs:List Nat}{V:List Value}{Q:List (Value × F)}{fs:List F}{ca:Option Addr}{cc:Nat}{va:Option Addr}{vc:Nat}{X:List Cx}{U:List Vr} (h:PD w B ca cc va vc X U (L.map Prod.fst) bs) (hN:NF w base gb mb la lc L bs V (fun _=>Q)) (hQ:Q.map Prod.snd=fs) (hF:∀ y∈Q,zcs w y.1 y.2):zjj w ca (X.map (cnOf fs)):=by
 intro i d hi
 rw [List.getElem?_map] at hi
 obtain ⟨c,hc,rfl⟩:=Option.map_eq_some_iff.1 hi
 have key:=fun j u (hj:(zb2 c)[j]?=some u)=>zam h.conds (zbe (cells:=zb2) (m:=4) (fun _=>rfl) X i c j u hc hj)
 obtain ⟨k,rfl,_,h0,_⟩:=key 0 _ rfl
 obtain ⟨k1,e1,_,h1,_⟩:=key 1 _ rfl
 obtain ⟨k2,e2,_,h2,_⟩:=key 2 _ rfl
 obtain ⟨k3,e3,_,h3,_⟩:=key 3 _ rfl
 cases e1
 cases e2
 cases e3
 have hcm:=List.mem_of_getElem? hc
 obtain ⟨m,hA,hb⟩:=h.nodes c hcm
 rw [List.getElem?_map] at hA
 obtain ⟨x,hx,hxa⟩:=Option.map_eq_some_iff.1 hA
 have hml:m<L.length:=(List.getElem?_eq_some_iff.1 hx).1
 obtain ⟨v,hv⟩:∃ v,V[m]?=some v:=⟨V[m]'(by rw [hN.lenv];exact hml),by simp⟩
 obtain ⟨n1,_,⟨fa,fc,rfl⟩,n4⟩:=hN.node m x c.node v hx hb hv
 obtain ⟨na,nc,hnd⟩:=n1.nd (hN.als x (List.mem_of_getElem? hx))
 rw [hxa] at hnd n1 n4
 have hsl:(sel c.cp.alpha Q).map Prod.snd=fs.filter (passes c.cp.alpha):=by rw [zic,hQ]
 have hlen:(sel c.cp.alpha Q).length=(fs.filter (passes c.cp.alpha)).length:=by rw [← hsl,List.length_map]
 obtain ⟨⟨_,_,_,y4⟩,_⟩:=n1.facts
 refine ⟨k,0,c.ta,c.tc,rfl,by simpa [cnOf] using h0,by simpa [cnOf] using h1,by simpa [cnOf] using h2,by simpa [cnOf] using h3,⟨zdM.owns (h.tests c hcm),⟨na,nc,hnd⟩,fa,fc,?_,?_⟩⟩
 ·show w.cell? ⟨c.node,4,none⟩=some (.slice fa (fs.filter (passes c.cp.alpha)).length fc)
  rw [← hlen]
  exact y4
 ·intro j f hj
  have hj':((sel c.cp.alpha Q).map Prod.snd)[j]?=some f:=by rw [hsl];exact hj
  rw [List.getElem?_map] at hj'
  obtain ⟨y,hy,rfl⟩:=Option.map_eq_some_iff.1 hj'
  obtain ⟨g,rfl,_,hg,_⟩:=zam n4 (show ((sel c.cp.alpha Q).map Prod.fst)[j]?=some y.1 by rw [List.getElem?_map,hy];rfl)
  exact ⟨g,0,y.1,rfl,by simpa using hg,hF y (List.mem_filter.1 (List.mem_of_getElem? hy)).1⟩
theorem zcF:∀ (ps:List Pt) (vs:List Vr) (n:Nat),(∀ p∈ps,p.terms.length≤6)→∀ d∈zax ps vs n,d.tests.length≤6∧d.alpha.tests.length≤6
 | [],_,_,_,d,hd=>by simp [zax] at hd
 | p :: ps,vs,n,h,d,hd=>by
  rw [zbP] at hd
  have hr:∀ q∈ps,q.terms.length≤6:=fun q hq=>h q (by simp [hq])
  rcases List.mem_cons.1 hd with rfl | hd
  ·exact ⟨Nat.le_trans (zdI _ _ _) (h p (by simp)),zc0 p⟩
  ·split at hd
   ·exact zcF ps _ _ hr d hd
   ·exact zcF ps _ _ hr d hd
structure zjP (w:World) (fs:List F) (ca:Option Addr) (va:Option Addr) (r:Ru) (cs:List Cn):Prop where
 conds:zjj w ca cs
 vars:zfm w va (zaK r.pats [] 0)
 len:cs.length=(zax r.pats [] 0).length
 each:∀ (k:Nat) (c:Cn) (d:Cp),cs[k]?=some c→(zax r.pats [] 0)[k]?=some d→CnCp fs c d
 small:∀ c∈cs,zmK c
theorem zjP.below {w w':World}{fs:List F}{ca va:Option Addr}{r:Ru}{cs:List Cn} (h:zjP w fs ca va r cs) (hb:Below w.heap.size w w'):zjP w' fs ca va r cs:=⟨h.conds.below hb,h.vars.below hb,h.len,h.each,h.small⟩
theorem PD.pln {w:World}{B base gb mb:Nat}{la:Option Addr}{lc:Nat}{L:List AlX}{bs:List Nat}{V:List Value}{Q:List (Value × F)}{fs:List F}{ca:Option Addr}{cc:Nat}{va:Option Addr}{vc:Nat}{X:List Cx}{r:Ru} (h:PD w B ca cc va vc X (zaK r.pats [] 0) (L.map Prod.fst) bs) (hN:NF w base gb mb la lc L bs V (fun _=>Q)) (hQ:Q.map Prod.snd=fs) (hF:∀ y∈Q,zcs w y.1 y.2) (hX:X.map Cx.cp=zax r.pats [] 0) (ht:∀ p∈r.pats,p.terms.length≤6) (hf:fs.length≤40):zjP w fs ca va r (X.map (cnOf fs)):=by
 refine ⟨h.cns hN hQ hF,zfm.owns h.vars,by rw [← hX];simp,fun k c d hc hd=>?_,fun c hc=>?_⟩
 ·rw [← hX,List.getElem?_map] at hd
  rw [List.getElem?_map] at hc
  obtain ⟨x,hx,rfl⟩:=Option.map_eq_some_iff.1 hc
  rw [hx] at hd
  cases hd
  exact zk5 fs x
 ·obtain ⟨x,hx,rfl⟩:=List.mem_map.1 hc
  obtain ⟨h1,h2⟩:=zcF r.pats [] 0 ht x.cp (by rw [← hX];exact List.mem_map.2 ⟨x,hx,rfl⟩)
  exact ⟨Nat.le_trans h1 (by decide),Nat.le_trans (List.length_filter_le _ _) (by omega),Nat.le_trans h2 (by decide)⟩
end Go.Proofs.YtmmdlgjmplddiaaGreat
namespace Go.Proofs.YtmmdlgjmplddiaaGreat
open Go.RowKit Go.Maps
attribute [local go_sem ↓] Go.wp_at_zero Go.wp_at_succ
theorem cells5P {w:World}{b:Nat}{ty:TypeId}{x0 x1 x2 x3 x4:Value} (h:w.heap[b]?=some (.cells #[x0,x1,x2,x3,x4] ty (0,0))):w.cell? ⟨b,0,none⟩=some x0∧w.cell? ⟨b,1,none⟩=some x1∧w.cell? ⟨b,2,none⟩=some x2∧w.cell? ⟨b,3,none⟩=some x3∧w.cell? ⟨b,4,none⟩=some x4:=by
 refine ⟨?_,?_,?_,?_,?_⟩ <;> simp [World.cell?,h]
structure Lko (E B:Nat) (w w':World):Prop where
 os:w'.os=w.os
 tape:w'.tape=w.tape
 output:w'.output=w.output
 size:w.heap.size≤w'.heap.size
 block:∀ g,g<w.heap.size→(g<E∨B≤g)→w'.heap[g]?=w.heap[g]?
theorem Lko.refl (E B:Nat) (w:World):Lko E B w w:=⟨rfl,rfl,rfl,Nat.le_refl _,fun _ _ _=>rfl⟩
theorem Lko.of_below {E B:Nat}{w w':World} (h:Below w.heap.size w w'):Lko E B w w':=⟨h.os,h.tape,h.output,h.size,fun g hg _=>h.block g hg⟩
theorem Lko.of_turned {E B b:Nat}{w w':World} (h:Turned w w' b) (h1:E≤b) (h2:b<B):Lko E B w w':=⟨h.os,h.tape,h.output,Nat.le_of_eq h.size.symm,fun g _ h3=>h.block g (by omega)⟩
theorem Lko.trans {E B:Nat}{u v w:World} (h:Lko E B u v) (k:Lko E B v w):Lko E B u w:=⟨k.os.trans h.os,k.tape.trans h.tape,k.output.trans h.output,Nat.le_trans h.size k.size,fun g hg h3=>(k.block g (Nat.lt_of_lt_of_le hg h.size) h3).trans (h.block g hg h3)⟩
theorem Lko.below {E B:Nat}{u v w:World} (k:Below E u v) (hE:E≤v.heap.size) (h:Lko E B v w):Below E u w:=⟨h.os.trans k.os,h.tape.trans k.tape,h.output.trans k.output,Nat.le_trans k.size h.size,fun g hg=>(h.block g (Nat.lt_of_lt_of_le hg hE) (.inl hg)).trans (k.block g hg)⟩
theorem Lko.own {E B base:Nat}{w w':World}{e:TypeId}{m:Nat}{v:Value}{n:Nat}{xs:List Value} (h:Lko E B w w') (ho:w.ownsRow base e m v n xs) (hB:B≤base):w'.ownsRow base e m v n xs:=
 zaf ho fun k hk=>h.block k (ho.lt k hk).2 (.inr (Nat.le_trans hB (ho.lt k hk).1))
theorem PD.lk {E B base:Nat}{w w':World}{ca:Option Addr}{cc:Nat}{va:Option Addr}{vc:Nat}{X:List Cx}{U:List Vr}{A:List Al}{bs:List Nat} (h:PD w base ca cc va vc X U A bs) (hl:Lko E B w w') (hB:B≤base):PD w' base ca cc va vc X U A bs:=
 ⟨hl.own h.conds hB,hl.own h.vars hB,fun c hc=>hl.own (h.tests c hc) hB,h.nodes⟩
theorem PLS.lk {E B base:Nat}{w w':World}{a:Option Addr}{c:Nat}{P:List Px}{A:List Al}{bs:List Nat} (h:PLS w base a c P A bs) (hl:Lko E B w w') (hB:B≤base):PLS w' base a c P A bs:=
 ⟨hl.own h.row hB,fun x hx=>(h.each x hx).lk hl hB⟩
theorem NF.lk {E B:Nat}{w w':World}{base gb mb:Nat}{la:Option Addr}{lc:Nat}{L:List AlX}{bs:List Nat}{V:List Value}{QQ:Nat→List (Value × F)} (h:NF w base gb mb la lc L bs V QQ) (hl:Lko E B w w') (hB:B≤base) (hg:B≤gb):NF w' base gb mb la lc L bs V QQ:=
 ⟨(hl.block gb (zab h.box) (.inr hg)).trans h.box,hl.own h.row hB,h.lenb,h.lenv,fun i x b v hx hb' hv=>by
  obtain ⟨h1,h2,h3,h4⟩:=h.node i x b v hx hb' hv
  exact ⟨(hl.block b (zab h1) (.inr (Nat.le_trans hB h2))).trans h1,h2,h3,hl.own h4 hB⟩,fun x hx=>⟨(h.als x hx).1,hl.own (h.als x hx).2 hB⟩,h.apart⟩
structure Pw where
 ca:Option Addr
 cc:Nat
 va:Option Addr
 vc:Nat
 cs:List Cn
def zhf (w:World) (B:Nat) (fs:List F) (a:Option Addr) (rs:List Ru) (PW:List Pw):Prop:=
 ∀ (i:Nat) (r:Ru) (x:Pw),rs[i]?=some r→PW[i]?=some x→∃ b o,a=some ⟨b,o,none⟩∧B≤b∧w.cell? ⟨b,o+i * 2,none⟩=some (.slice x.ca x.cs.length x.cc)∧w.cell? ⟨b,o+i * 2+1,none⟩=some (.slice x.va (zaK r.pats [] 0).length x.vc)∧zjP w fs x.ca x.va r x.cs∧x.cs.length≤x.cc∧w.ownsRow B 215 3 (.slice x.va (zaK r.pats [] 0).length x.vc) (zaK r.pats [] 0).length ((zaK r.pats [] 0).flatMap zbA)
theorem zhf.below {w w':World}{B:Nat}{fs:List F}{a:Option Addr}{rs:List Ru}{PW:List Pw} (h:zhf w B fs a rs PW) (hb:Below w.heap.size w w'):zhf w' B fs a rs PW:=by
 intro i r x hi hx
 obtain ⟨b,o,e,hB,h0,h1,h2,h3,h4⟩:=h i r x hi hx
 exact ⟨b,o,e,hB,zaa hb h0,zaa hb h1,h2.below hb,h3,zai h4 hb⟩
theorem zhf.lower {w:World}{B B':Nat}{fs:List F}{a:Option Addr}{rs:List Ru}{PW:List Pw} (h:zhf w B fs a rs PW) (hB':B'≤B):zhf w B' fs a rs PW:=by
 intro i r x hi hx
 obtain ⟨b,o,e,hB,h0,h1,h2,h3,h4⟩:=h i r x hi hx
 exact ⟨b,o,e,Nat.le_trans hB' hB,h0,h1,h2,h3,zar h4 hB'⟩
theorem zjC {fs:List F} (h:zaS fs=true):fs.length≤40:=by
 have h':(decide (fs.length≤40) && zbm 0 fs)=true:=h
 simp only [Bool.and_eq_true,decide_eq_true_eq] at h'
 exact h'.1
def PxOf (P:List Px) (rs:List Ru) (k:Nat):Prop:=P.length=k∧∀ (i:Nat) (x:Px) (r:Ru),P[i]?=some x→rs[i]?=some r→x.X.map Cx.cp=zax r.pats [] 0∧x.U=zaK r.pats [] 0
theorem PxOf.snoc {P:List Px}{rs:List Ru}{k:Nat}{x:Px}{r:Ru} (h:PxOf P rs k) (hr:rs[k]?=some r) (h1:x.X.map Cx.cp=zax r.pats [] 0) (h2:x.U=zaK r.pats [] 0):PxOf (P ++ [x]) rs (k+1):=by
 refine ⟨by simp [h.1],fun i y q hy hq=>?_⟩
 by_cases hi:i<P.length
 ·rw [List.getElem?_append_left hi] at hy
  exact h.2 i y q hy hq
 ·have hil:i=P.length:=by
   have:=(List.getElem?_eq_some_iff.1 hy).1
   simp at this
   omega
  subst hil
  simp at hy
  subst hy
  rw [h.1,hr] at hq
  cases hq
  exact ⟨h1,h2⟩
theorem capP {w:World}{base:Nat}{e:TypeId}{m:Nat}{a:Option Addr}{n c:Nat}{xs:List Value} (h:w.ownsRow base e m (.slice a n c) n xs):n≤c:=by
 rcases h.2 with ⟨he,h0⟩ | ⟨g,cap,cur,he,_,_,hnc,_⟩
 ·rw [h0]
  exact Nat.zero_le _
 ·cases he
  exact hnc
structure Raw (wE w w':World) (fs:List F) (a:Option Addr) (c:Nat) (rs:List Ru) (base gb mb:Nat) (la:Option Addr) (lc:Nat) (L:List AlX) (bs:List Nat) (V:List Value) (P:List Px) (Q:List (Value × F)):Prop where
 px:PxOf P rs rs.length
 base_le:w.heap.size≤base
 mem:∀ w'',Lko wE.heap.size w.heap.size w' w''→PLS w'' base a c P (L.map Prod.fst) bs∧NF w'' base gb mb la lc L bs V (fun _=>Q)
 snd:Q.map Prod.snd=fs
 facs:∀ y∈Q,zcs wE y.1 y.2
def zn1 (rs:List Ru) (fs:List F) (wE w:World) (e:Ending) (w':World):Prop:=
 (if ready rs fs=true then ∃ a c PW,e=.returned (.slice a rs.length c)∧List.length PW=rs.length∧(∀ w'',Lko wE.heap.size w.heap.size w' w''→zhf w'' w.heap.size fs a rs PW)∧(∃ base gb mb la lc L bs V P Q,Raw wE w w' fs a c rs base gb mb la lc L bs V P Q) else e=.returned (.slice none 0 0))∧Below w.heap.size w w'
theorem PLS.at {w:World}{B base gb mb:Nat}{la:Option Addr}{lc:Nat}{L:List AlX}{bs:List Nat}{V:List Value}{Q:List (Value × F)}{fs:List F}{a:Option Addr}{c:Nat}{P:List Px}{rs:List Ru} (h:PLS w B a c P (L.map Prod.fst) bs) (hN:NF w base gb mb la lc L bs V (fun _=>Q)) (hQ:Q.map Prod.snd=fs) (hF:∀ y∈Q,zcs w y.1 y.2) (hP:PxOf P rs rs.length) (ht:∀ r∈rs,∀ p∈r.pats,p.terms.length≤6) (hf:fs.length≤40):zhf w B fs a rs (P.map fun x=>⟨x.ca,x.cc,x.va,x.vc,x.X.map (cnOf fs)⟩):=by
 intro i r z hi hz
 have hil:i<P.length:=by rw [hP.1];exact (List.getElem?_eq_some_iff.1 hi).1
 obtain ⟨x,hx⟩:∃ x,P[i]?=some x:=⟨P[i],by simp [hil]⟩
 obtain ⟨hX,hU⟩:=hP.2 i x r hx hi
 have key:=fun j u (hj:(zcP x)[j]?=some u)=>zam h.row (zbe (cells:=zcP) (m:=2) (fun _=>rfl) P i x j u hx hj)
 obtain ⟨k,rfl,hkB,h0,_⟩:=key 0 _ rfl
 obtain ⟨k1,e1,_,h1,_⟩:=key 1 _ rfl
 cases e1
 have hpd:=h.each x (List.mem_of_getElem? hx)
 have hcap:=capP hpd.conds
 rw [hU] at hpd h1
 rw [List.getElem?_map,hx] at hz
 cases hz
 exact ⟨k,0,rfl,hkB,by simpa using h0,by simpa using h1,hpd.pln hN hQ hF hX (ht r (List.mem_of_getElem? hi)) hf,by simpa using hcap,hpd.vars⟩
set_option maxRecDepth 100000 in
set_option maxHeartbeats 12800000 in
theorem zdO (rs:List Ru) (a:Option Addr) (c:Nat) (fs:List F) (fa:Option Addr) (fc:Nat) {q:Option Nat} (wE w:World) (hE:Below wE.heap.size wE w) (hv:zcy q w a rs) (hc:rs.length≤c) (hle:zbs Ru.le 1048576 rs) (ho:∀ x∈rs,zd0 x.exprs) (hvo:∀ r∈rs,∀ p∈r.pats,∀ t∈p.terms,VOk t.val) (hfe:zaG wE fa fs) (hfl:fs.length≤1048576) (hfs:∀ f∈fs,Sized f) :
  Calls Tryz.prog 21 #[.slice a rs.length c,.slice fa fs.length fc] w (zn1 rs fs wE w):=by
 have hfa:=hfe.below hE
 obtain ⟨kl,K⟩:=KLA.exist
 have HV:=hidP hv
 have HLE:=hidP hle
 have HVO:=hidP hvo
 have HFA:=hidP hfa
 have HFE:=hidP hfe
 have HE:=hidP hE
 have hEs:=hE.size
 have HC:=hidP (ze8 a c rs w hv hc hle ho)
 have HGF:=hidP (fun w' (hb:Below w.heap.size w w')=>zgs fa fc fs w' (hfa.below hb) hfl hfs)
 clear hv hle hvo hfa hfs ho hfe hE
 unfold ckV at HC
 have hfd:∀ (p0 p1 p2:Int) (w:World),(Instr.field 93 (.agg #[.int .i64 p0,.int .i64 p1,.int .i64 p2]) 0).run Tryz.prog w=.ok (.int .i64 p0) w:=fun _ _ _ _=>by kernel_rfl
 by_cases hck:(chk rs).1=0
 ·have h16:=(zeP hck).1
  have HSM:=hidP (fun r (hr:r∈rs)=>zdi hck hr)
  have HRD:=hidP (show ready rs fs=zaS fs by unfold ready;rw [decide_eq_true hck];simp)
  have hcn:((chk rs).1 != 0)=false:=by simpa using hck
  have hcb:((chk rs).1==0)=true:=by simpa using hck
  generalize (chk rs).1=p0 at HC hck hcn hcb
  generalize (chk rs).2.1=p1 at HC
  generalize (chk rs).2.2=p2 at HC
  clear hck
  cases hg:zaS fs
  ·have HRF:=hidP (show ready rs fs=false by rw [HRD.out,hg])
   rw [hg] at HGF
   clear hg
   go_enter Tryz.func21,Tryz.ntmps21
   go_wp2_with fail
   refine HC.out.mono ?_
   rintro e w1 ⟨rfl,hb1⟩
   have B1:=hidP hb1
   have GF:=hidP (HGF.out w1 hb1)
   clear hb1 HC HGF
   go_wp2_with fail
   refine GF.out.mono ?_
   rintro e w2 ⟨rfl,hb2⟩
   have B2:=hidP (B1.out.trans (hb2.mono B1.out.size))
   clear hb2 GF
   go_wp2_with fail
   go_ret
   exact ⟨by rw [HRF.out];simp,B2.out⟩
  ·have HRF:=hidP (show ready rs fs=true by rw [HRD.out,hg])
   have hf40:=zjC hg
   rw [hg] at HGF
   clear hg
   go_enter Tryz.func21,Tryz.ntmps21
   go_wp2_with fail
   refine HC.out.mono ?_
   rintro e w1 ⟨rfl,hb1⟩
   have B1:=hidP hb1
   have GF:=hidP (HGF.out w1 hb1)
   clear hb1 HC HGF
   go_wp2_with fail
   refine GF.out.mono ?_
   rintro e w2 ⟨rfl,hb2⟩
   have B2:=hidP (B1.out.trans (hb2.mono B1.out.size))
   have hs2:=B2.out.size
   clear hb2 GF B1 hfd hcn hcb
   go_wp2_with fail
   refine (zhy kl w2).mono ?_
   rintro e w3 ⟨rfl,hns3,hb3⟩
   have G3:=hidP hns3
   have B3:=hidP (B2.out.trans (hb3.mono B2.out.size))
   have hs3:=hb3.size
   clear hns3 hb3 B2
   obtain ⟨gb,hgb⟩:∃ gb,gb=w2.heap.size+1:=⟨_,rfl⟩
   obtain ⟨base,hbs⟩:∃ v,v=w2.heap.size:=⟨_,rfl⟩
   rw [← hgb] at G3 ⊢
   rw [← hbs] at G3 hs2 hs3
   have hgbB:base≤gb:=by omega
   clear hgb hbs
   go_wp2_with fail
   go_loopw [22,6] (fun iv pv wr=>∃ (k:Nat) (pa:Option Addr) (pc:Nat) (P:List Px) (la:Option Addr) (lc:Nat) (L:List AlX) (bs:List Nat) (D:DataW Unit),iv=.int .i64 (k:Int)∧pv=.slice pa P.length pc∧k≤rs.length∧P.length≤k∧PxOf P rs k∧L.length≤6 * k∧(∀ x∈L,x.1.tests.length≤6)∧NS kl wr base gb base la lc L bs D∧PLS wr base pa pc P (L.map Prod.fst) bs∧Below w.heap.size w wr∧base≤wr.heap.size) (fun iv _ _=>rs.length - (intOf iv).toNat)
   case atStart=>exact ⟨0,none,0,[],none,0,[],[],_,rfl,rfl,Nat.zero_le _,Nat.le_refl _,⟨rfl,fun i x r hx=>by simp at hx⟩,Nat.le_refl _,fun x hx=>by simp at hx,G3.out,⟨World.ownsRow_nil _ _ _ _,fun x hx=>by simp at hx⟩,B3.out,hs3⟩
   case round=>
    obtain ⟨k,pa,pc,P,la,lc,L,bs,D,rfl,rfl,hkl,hPl,hPx,hLl,hsix,hNS,hPLS,hB,hbw⟩:=hrel
    have PX:=hidP hPx
    have SIX:=hidP hsix
    have G:=hidP hNS
    have PL:=hidP hPLS
    have B:=hidP hB
    clear hPx hsix hNS hPLS hB G3 B3
    by_cases hk:k<rs.length
    ·obtain ⟨r,hr⟩:∃ r,rs[k]?=some r:=⟨rs[k],by simp [hk]⟩
     obtain ⟨rb,ro,a_p,c_p,a_e,c_e,a_c,c_c,rfl,_,c0,c1,c2,c3,c4,h_p,_,_,_⟩:=HV.out.get hr
     have d0:=zaa B.out c0
     have d1:=zaa B.out c1
     have d2:=zaa B.out c2
     have d3:=zaa B.out c3
     have d4:=zaa B.out c4
     have hrm:=List.mem_of_getElem? hr
     obtain ⟨hp6,ht6,_⟩:=HSM.out r hrm
     have HNP:=hidP (fun w' (hN:NS kl w' base gb base la lc L bs D) (hA:Below w.heap.size w w') (hb:base≤w'.heap.size)=>zhX kl K r a_p c_p a_e c_e a_c c_c base gb base la lc L bs D w w' hA hs2 hb h_p hN hp6 ht6 (HLE.out.2 r hrm).2.1.2 (HVO.out r hrm) (by omega) SIX.out)
     have HR:=hidP hr
     have z0:(0:Int)≤(k:Int):=by omega
     have z1:(k:Int)<(rs.length:Int):=by omega
     clear c0 c1 c2 c3 c4 h_p hr ht6 hrm
     go_upto_region 8 with fail
     refine zaj ?_
     intro w5 hW5 hq5
     have y0:w5.cell? ⟨wr.heap.size,0,none⟩=some (.string r.name):=by simp [World.cell?,hq5]
     have y1:w5.cell? ⟨wr.heap.size,1,none⟩=some (.int .i64 r.sal):=by simp [World.cell?,hq5]
     have y2:w5.cell? ⟨wr.heap.size,2,none⟩=some (.slice a_p r.pats.length c_p):=by simp [World.cell?,hq5]
     have y3:w5.cell? ⟨wr.heap.size,3,none⟩=some (.slice a_e r.exprs.length c_e):=by simp [World.cell?,hq5]
     have y4:w5.cell? ⟨wr.heap.size,4,none⟩=some (.slice a_c r.acts.length c_c):=by simp [World.cell?,hq5]
     have G5:=hidP (G.out.bel hW5)
     have PL5:=hidP (PL.out.bel hW5)
     have B5:=hidP (B.out.trans (hW5.mono B.out.size))
     have hs5:=hW5.size
     have hb5:base≤w5.heap.size:=by omega
     clear hW5 hq5 d0 d1 d2 d3 d4 G PL B
     go_wp2_with fail
     refine (HNP.out w5 G5.out B5.out hb5).mono ?_
     rintro e w6 ⟨la',lc',L',bs',D',ca,cc,va,vc,X,rfl,hX,hns,hpd,hfr,_,hex,hexa,hLl',h6⟩
     have hR6:=hidP (hfr.own PL5.out.row G5.out (by decide) (by decide))
     have G6:=hidP hns
     have PD6:=hidP (hpd.lower hb5)
     have FR6:=hidP hfr
     have EX:=hidP hex
     have EXA:=hidP hexa
     have HX:=hidP hX
     have H6:=hidP h6
     have hs6:=hfr.rest.size
     have hB6:base≤w6.heap.size:=by omega
     have B6:=hidP (B5.out.trans (hfr.below B5.out.size (Nat.le_trans hs2 G5.out.gbase.1) (Nat.le_trans hs2 G5.out.gbase.2) (fun g hg=>Nat.le_trans hs2 (G5.out.row.lt g hg).1)))
     have HW:=hidP (fun o=>(Below.refl _ _).alloc (Nat.le_refl _) o:∀ o,Below w6.heap.size w6 (w6.alloc o))
     have TY:=hidP (fun o g hg=>zah (zai hR6.out (HW.out o)) (k:=g) hg)
     clear hX hns hpd hfr hex hexa h6 y0 y1 y2 y3 y4 HNP
     go_wp2_with (first | (at_builtin;refine zae (by rfl) (.tmp 26) (.tmp 30) 66 (by rfl) base 71 _ 2 48 Tryz.underlying66 znL (by rfl) (by omega) _ P.length _ (by rfl) (zai hR6.out (HW.out _)) (some ⟨_,0,none⟩) 1 1 (by rfl) (zcP ⟨ca,cc,va,vc,X,zaK r.pats [] 0⟩) (by rfl) (fun e=>by cases e) (zaw _ _ _ _ (by first | rfl | simp)) (znK _) (by unfold maxLen;omega) (by omega) (Nat.le_trans hB6 (HW.out _).size) ?_;intro a7 c7 w7 ho7 hg7 hl7) | fail)
     have PL7:=hidP (PL5.out.push (x:=⟨ca,cc,va,vc,X,zaK r.pats [] 0⟩) G5.out FR6.out EX.out EXA.out PD6.out hg7.out ho7.out)
     have G7:=hidP ((G6.out.bel (HW.out _)).grown hg7.out (TY.out _) (by unfold NTy;decide))
     have hs7:=hg7.out.size
     simp at hs7
     have B7:=hidP ((B6.out.trans ((HW.out _).mono B6.out.size)).grown hg7.out (Nat.le_trans B6.out.size (HW.out _).size) (fun g hg=>Nat.le_trans hs2 (hR6.out.lt g hg).1))
     have PX7:=hidP (PX.out.snoc (x:=⟨ca,cc,va,vc,X,zaK r.pats [] 0⟩) HR.out HX.out rfl)
     clear hl7
     go_roundw
     case rel=>exact ⟨k+1,a7,c7,P ++ [⟨ca,cc,va,vc,X,zaK r.pats [] 0⟩],la',lc',L',bs',D',by go_num,by simp,by omega,by simp;omega,PX7.out,by omega,H6.out,G7.out,PL7.out,B7.out,by omega⟩
     case measure=>(simp [intOf];omega)
    ·have hke:k=rs.length:=by omega
     subst hke
     have hy:¬ (rs.length:Int)<(rs.length:Int):=by omega
     have NF0:=hidP (NF.ofNS G.out)
     obtain ⟨wQ,hwQ⟩:∃ v,v=wr:=⟨wr,rfl⟩
     rw [← hwQ] at NF0 PL B hbw ⊢
     clear G hwQ
     go_wp2_with fail
     go_loopw [35] (fun iv wr=>∃ (k:Nat) (V:List Value),iv=.int .i64 (k:Int)∧k≤fs.length∧NF wr base gb base la lc L bs V (fun _=>qUp fa fs k)∧FrT base wQ wr) (fun iv _=>fs.length - (intOf iv).toNat)
     case atStart=>exact ⟨0,_,rfl,Nat.zero_le _,NF0.out,FrT.refl _ _⟩
     case round=>
      obtain ⟨j,V,rfl,hjl,hNF,hFT⟩:=hrel
      have NR:=hidP hNF
      have FT:=hidP hFT
      have AR:=hidP (B.out.trans (hFT.rest.mono hs2))
      have hsr:=hFT.rest.size
      have hbr:base≤wr.heap.size:=by omega
      clear hNF hFT NF0
      by_cases hj:j<fs.length
      ·obtain ⟨f,hf⟩:∃ f,fs[j]?=some f:=⟨fs[j],by simp [hj]⟩
       obtain ⟨fb,fo,rfl,c0,c1,sa,sc,c2,hsv⟩:=HFA.out j f hf
       have hql:=zkB (some ⟨fb,fo,none⟩) fs j
       have HAD:=hidP (zhu base gb base la lc L bs V (qUp (some ⟨fb,fo,none⟩) fs j) (.pointer (some ⟨fb,fo+j * 3,none⟩)) f w wr AR.out hs2 ⟨fb,fo+j * 3,rfl,c0,c1,sa,sc,c2,hsv⟩ NR.out hbr (by omega) (by omega) (fun x hx=>Nat.le_trans (SIX.out x hx) (by decide)))
       have HQ:=hidP (zi9 (b:=fb) (o:=fo) hf)
       have z0:(0:Int)≤(j:Int):=by omega
       have z1:(j:Int)<(fs.length:Int):=by omega
       clear hf c0 c1 c2 hsv
       go_wp2_with fail
       refine HAD.out.mono ?_
       rintro e w8 ⟨rfl,⟨V',hN8⟩,hF8⟩
       have N8:=hidP hN8
       have F8:=hidP (FT.out.trans hF8)
       clear hN8 hF8 HAD
       go_wp2_with fail
       go_roundw
       case rel=>exact ⟨j+1,V',by go_num,by omega,by rw [HQ.out];exact N8.out,F8.out⟩
       case measure=>(simp [intOf];omega)
      ·have hje:j=fs.length:=by omega
       subst hje
       have hy2:¬ (fs.length:Int)<(fs.length:Int):=by omega
       go_wp2_with fail
       go_ret
       obtain ⟨q1,q2⟩:=zlB HFE.out fs.length (Nat.le_refl _)
       rw [List.take_length] at q1
       refine ⟨?_,AR.out⟩
       rw [HRF.out,if_pos rfl]
       refine ⟨pa,pc,P.map (fun x=>(⟨x.ca,x.cc,x.va,x.vc,x.X.map (cnOf fs)⟩:Pw)),by rw [PX.out.1];rfl,by rw [List.length_map,PX.out.1],fun w'' hlk=>?_,base,gb,base,la,lc,L,bs,V,P,_,⟨PX.out,hs2,fun w'' hlk=>⟨(PL.out.ft FT.out).lk hlk hs2,NR.out.lk hlk hs2 (Nat.le_trans hs2 hgbB)⟩,q1,q2⟩⟩
       have ARE:Below wE.heap.size wE wr:=HE.out.trans (AR.out.mono hEs)
       exact (((PL.out.ft FT.out).lk hlk hs2).at (NR.out.lk hlk hs2 (Nat.le_trans hs2 hgbB)) q1 (fun y hy=>(q2 y hy).below (Lko.below ARE (by omega) hlk)) PX.out (fun r hr=>(HSM.out r hr).2.1) hf40).lower hs2
 ·have HRF:=hidP (show ready rs fs=false by unfold ready;rw [decide_eq_false hck];simp)
  have hcn:((chk rs).1 != 0)=true:=by simpa using hck
  have hcb:((chk rs).1==0)=false:=by simpa using hck
  generalize (chk rs).1=p0 at HC hck hcn hcb
  generalize (chk rs).2.1=p1 at HC
  generalize (chk rs).2.2=p2 at HC
  clear hck
  go_enter Tryz.func21,Tryz.ntmps21
  go_wp2_with fail
  refine HC.out.mono ?_
  rintro e w1 ⟨rfl,hb1⟩
  have B1:=hidP hb1
  clear hb1 HC
  go_wp2_with fail
  go_ret
  exact ⟨by rw [HRF.out];simp,B1.out⟩
end Go.Proofs.YtmmdlgjmplddiaaGreat
namespace Go.Proofs.YtmmdlgjmplddiaaGreat
open Go.RowKit Go.Maps
attribute [local go_sem ↓] Go.wp_at_zero Go.wp_at_succ
end Go.Proofs.YtmmdlgjmplddiaaGreat
namespace Go.Proofs.YtmmdlgjmplddiaaGreat
open Go.RowKit
attribute [local go_sem ↓] Go.wp_at_zero Go.wp_at_succ
def setP (i:Nat) (x p0 p1 p2:Value):Array Value:=#[if i=0 then x else p0,if i=1 then x else p1,if i=2 then x else p2]
set_option maxHeartbeats 3200000 in
theorem zif (p0 p1 p2:Option Addr) (x:Option Addr) (i:Nat) (w:World) (hi:i<3) :
  Calls Tryz.prog 60 #[.agg #[.pointer p0,.pointer p1,.pointer p2],.int .i64 (i:Int),.pointer x] w fun e w'=>e=.returned (.agg (setP i (.pointer x) (.pointer p0) (.pointer p1) (.pointer p2)))∧Below w.heap.size w w':=by
 go_enter Tryz.func60,Tryz.ntmps60
 go_upto_region 1 with fail
 refine lift2P ?_
 intro w0 hW0 hq0 hq1
 have f0:∀ j,w0.frozen? ⟨w.heap.size,j,none⟩=false:=fun j=>by simp [World.frozen?,hq0]
 have g0:∀ j,w0.frozen? ⟨w.heap.size+1,j,none⟩=false:=fun j=>by simp [World.frozen?,hq1]
 obtain ⟨a0,a1,a2⟩:=cells3P hq0
 obtain ⟨b0,b1,b2⟩:=cells3P hq1
 have x0:=f0 0
 have x1:=f0 1
 have x2:=f0 2
 have y0:=g0 0
 have y1:=g0 1
 have y2:=g0 2
 have B0:=hidP hW0
 have hl:w.heap.size+1<w0.heap.size:=zab hq1
 clear hW0 hq0 hq1 f0 g0
 rcases i with _ | _ | _ | i
 ·go_wp2_with fail
  refine bodyPost_ret (v:=.agg (setP 0 (.pointer x) (.pointer p0) (.pointer p1) (.pointer p2))) (by simp [results,Tryz.results60,go_sem,setP, *]) rfl ⟨rfl,?_⟩
  exact (((B0.out.setCell (by simp) _).setCell (by simp) _).setCell (by simp) _).setCell (by simp) _
 ·go_wp2_with fail
  refine bodyPost_ret (v:=.agg (setP 1 (.pointer x) (.pointer p0) (.pointer p1) (.pointer p2))) (by simp [results,Tryz.results60,go_sem,setP, *]) rfl ⟨rfl,?_⟩
  exact (((B0.out.setCell (by simp) _).setCell (by simp) _).setCell (by simp) _).setCell (by simp) _
 ·go_wp2_with fail
  refine bodyPost_ret (v:=.agg (setP 2 (.pointer x) (.pointer p0) (.pointer p1) (.pointer p2))) (by simp [results,Tryz.results60,go_sem,setP, *]) rfl ⟨rfl,?_⟩
  exact (((B0.out.setCell (by simp) _).setCell (by simp) _).setCell (by simp) _).setCell (by simp) _
 ·omega
end Go.Proofs.YtmmdlgjmplddiaaGreat
namespace Go.Proofs.YtmmdlgjmplddiaaGreat
open Go.RowKit Go.Maps
attribute [local go_sem ↓] Go.wp_at_zero Go.wp_at_succ
theorem zmY {fs W:List F}{cs:List Cn}{ds:List Cp} (hl:cs.length=ds.length) (he:∀ (k:Nat) (c:Cn) (d:Cp),cs[k]?=some c→ds[k]?=some d→CnCp fs c d):cs.all (okC W)=ds.all (okP fs W):=by
 rw [Bool.eq_iff_iff,List.all_eq_true,List.all_eq_true]
 constructor
 ·intro h d hd
  obtain ⟨k,hk,rfl⟩:=List.getElem_of_mem hd
  have hk':k<cs.length:=by omega
  have e:=he k cs[k] ds[k] (by simp [hk']) (by simp [hk])
  rw [← zk1 e]
  exact h _ (List.getElem_mem hk')
 ·intro h c hc
  obtain ⟨k,hk,rfl⟩:=List.getElem_of_mem hc
  have hk':k<ds.length:=by omega
  have e:=he k cs[k] ds[k] (by simp [hk]) (by simp [hk'])
  rw [zk1 e]
  exact h _ (List.getElem_mem hk')
theorem zm8 {fs W:List F}{r:Ru}{cs:List Cn} (hk:KnR r.pats [] 0) (hn:positives r.pats≤W.length) (hl:cs.length=(zax r.pats [] 0).length) (he:∀ (k:Nat) (c:Cn) (d:Cp),cs[k]?=some c→(zax r.pats [] 0)[k]?=some d→CnCp fs c d):∀ (k:Nat) (c:Cn),cs[k]?=some c→(∀ c'∈cs.take k,okC W c'=true)→fitC W c:=by
 intro k c hc hok
 have hkl:k<cs.length:=(List.getElem?_eq_some_iff.1 hc).1
 obtain ⟨d,hd⟩:∃ d,(zax r.pats [] 0)[k]?=some d:=⟨(zax r.pats [] 0)[k]'(by omega),by simp⟩
 refine znn (he k c d hc hd) (zgJ fs W r.pats [] 0 hk (fun v hv=>by simp at hv) (by omega) k d hd (fun d' hd'=>?_))
 obtain ⟨j,hj,rfl⟩:=List.getElem_of_mem hd'
 have hjk:j<k:=by
  simp at hj
  omega
 have hjc:j<cs.length:=by omega
 have hjd:j<(zax r.pats [] 0).length:=by omega
 have e:=he j cs[j] (zax r.pats [] 0)[j] (by simp [hjc]) (by simp [hjd])
 rw [List.getElem_take,← zk1 e]
 exact hok _ (List.mem_of_getElem? (show (cs.take k)[j]?=some cs[j] by rw [List.getElem?_take];simp [hjk,hjc]))
theorem zhA {tag:Int}:∀ {fs:List F},fidx tag fs=none→∀ f∈fs,f.tag≠tag
 | [],_,f,hf=>by simp at hf
 | g :: r,h,f,hf=>by
  unfold fidx at h
  split at h
  ·cases h
  ·rename_i hg
   rcases List.mem_cons.1 hf with rfl | hf
   ·exact hg
   ·exact zhA (by simpa using h) f hf
theorem zhg {tag:Int}:∀ {fs:List F}{n:Nat},fidx tag fs=some n→∃ f,fs[n]?=some f∧f.tag=tag
 | [],_,h=>by simp [fidx] at h
 | g :: r,n,h=>by
  unfold fidx at h
  split at h
  ·rename_i hg
   cases h
   exact ⟨g,rfl,hg⟩
  ·obtain ⟨m,hm,rfl⟩:=Option.map_eq_some_iff.1 h
   obtain ⟨f,h1,h2⟩:=zhg hm
   exact ⟨f,by simpa using h1,h2⟩
def WOk (fs:List F) (tags:List Int) (k:Nat) (W:List F):Prop:=W.length=k∧W.map (·.tag)=tags.take k∧∀ f∈W,f∈fs
theorem WOk.snoc {fs:List F}{tags:List Int}{k:Nat}{W:List F}{f:F} (h:WOk fs tags k W) (ht:tags[k]?=some f.tag) (hf:f∈fs):WOk fs tags (k+1) (W ++ [f]):=by
 refine ⟨by simp [h.1],by rw [List.map_append,h.2.1,List.take_add_one,ht];rfl,fun g hg=>?_⟩
 rcases List.mem_append.1 hg with hg | hg
 ·exact h.2.2 g hg
 ·rw [List.mem_singleton.1 hg]
  exact hf
theorem zkc {P:World→Prop}{w:World}{b k:Nat}{t:TypeId}{p0 p1 p2 y:Option Addr} (h0:w.heap[b]?=some (.cells #[.pointer p0,.pointer p1,.pointer p2] t (0,0))) (hk:k<3) (h:∀ wt q0 q1 q2,wt.heap[b]?=some (.cells #[.pointer q0,.pointer q1,.pointer q2] t (0,0))→[q0,q1,q2]=[p0,p1,p2].set k y→Turned w wt b→P wt):P (w.setCell ⟨b,k,none⟩ (.pointer y)):=by
 have h1:=zad (i:=k) h0 (.pointer y)
 rcases k with _ | _ | _ | k
 ·exact h _ y p1 p2 (by simpa using h1) rfl (Turned.setCells [_] 0 w b)
 ·exact h _ p0 y p2 (by simpa using h1) rfl (Turned.setCells [_] 1 w b)
 ·exact h _ p0 p1 y (by simpa using h1) rfl (Turned.setCells [_] 2 w b)
 ·omega
theorem zdb.snoc {w:World}{p0 p1 p2 q0 q1 q2 y:Option Addr}{W:List F}{f:F}{k:Nat} (h:zdb w (.pointer p0) (.pointer p1) (.pointer p2) W) (hW:W.length=k) (hk:k<3) (hq:[q0,q1,q2]=[p0,p1,p2].set k y) (hy:zcs w (.pointer y) f):zdb w (.pointer q0) (.pointer q1) (.pointer q2) (W ++ [f]):=by
 intro i g hi
 have hq':[Value.pointer q0,.pointer q1,.pointer q2]=[Value.pointer p0,.pointer p1,.pointer p2].set k (.pointer y):=by
  have:=congrArg (List.map Value.pointer) hq
  rw [List.map_set] at this
  simpa using this
 rw [hq']
 by_cases hil:i<W.length
 ·rw [List.getElem?_append_left hil] at hi
  obtain ⟨pv,h1,h2⟩:=h i g hi
  exact ⟨pv,by rw [List.getElem?_set_ne (by omega)];exact h1,h2⟩
 ·have e:i=W.length:=by
   have:=(List.getElem?_eq_some_iff.1 hi).1
   simp at this
   omega
  rw [e,hW]
  rw [e] at hi
  simp at hi
  subst hi
  exact ⟨.pointer y,by rw [List.getElem?_set_self (by simp;omega)],hy⟩
def znP (r:Ru) (fs:List F) (tags:List Int) (w:World) (e:Ending) (w':World):Prop:=
 (∃ (ca:Option Addr) (n cc:Nat) (va:Option Addr) (m vc:Nat) (u0 u1 u2:Option Addr),e=.returned (.tuple #[.agg #[.slice ca n cc,.slice va m vc],.agg #[.pointer u0,.pointer u1,.pointer u2],.bool (za3 r fs tags)])∧(za3 r fs tags=true→∃ W,m=(zaK r.pats [] 0).length∧w'.ownsRow w.heap.size 215 3 (.slice va (zaK r.pats [] 0).length vc) (zaK r.pats [] 0).length ((zaK r.pats [] 0).flatMap zbA)∧zdb w' (.pointer u0) (.pointer u1) (.pointer u2) W∧WOk fs tags tags.length W∧tags.length=positives r.pats∧ready [r] fs=true))∧Below w.heap.size w w'
theorem zjL {r:Ru}{fs:List F}{tags:List Int} (h:ready [r] fs=false):za3 r fs tags=false:=by
 unfold za3
 rw [h]
 rfl
set_option maxRecDepth 100000 in
set_option maxHeartbeats 12800000 in
theorem ziA (r:Ru) (fs:List F) (tags:List Int) (a_p:Option Addr) (c_p:Nat) (a_e:Option Addr) (c_e:Nat) (a_a:Option Addr) (c_a:Nat) (fa:Option Addr) (fc:Nat) (ta:Option Addr) (tc:Nat) {q q':Option Nat} (w:World) (h_p:zbY q w a_p r.pats) (h_e:za8 q w a_e r.exprs) (h_a:zcu q w a_a r.acts) (hce:r.exprs.length≤c_e) (hle:zbs Ru.le 1048576 [r]) (ho:zd0 r.exprs) (hvo:∀ p∈r.pats,∀ t∈p.terms,VOk t.val) (h_f:zaG w fa fs) (hl:fs.length≤1048576) (hs:∀ f∈fs,Sized f) (hrd:∀ f∈fs,Read f) (h_t:zaU q' w ta tags) (htl:tags.length≤1048576) (htw:∀ t∈tags,(Lit.int .i64 t).wf=true) :
  Calls Tryz.prog 25 #[.agg #[.string r.name,.int .i64 r.sal,.slice a_p r.pats.length c_p,.slice a_e r.exprs.length c_e,.slice a_a r.acts.length c_a],.slice fa fs.length fc,.slice ta tags.length tc] w (znP r fs tags w):=by
 have HP:=hidP h_p
 have HF:=hidP h_f
 have HRD:=hidP hrd
 have HTG:=hidP h_t
 have HTW:=hidP htw
 have hrl:r.pats.length≤1048576:=(hle.2 r (by simp)).2.1.1
 have HR:=hidP (fun wt (hb:Below w.heap.size w wt) k (h:wt.heap[k]?=some (.cells #[.string r.name,.int .i64 r.sal,.slice a_p r.pats.length c_p,.slice a_e r.exprs.length c_e,.slice a_a r.acts.length c_a] 35 (0,0)))=>zdO [r] (some ⟨k,0,none⟩) 1 fs fa fc w wt hb (zcy.one h (h_p.below hb).bare (h_e.below hb).bare (h_a.below hb).bare hce) (Nat.le_refl _) hle (by intro x hx;simp at hx;subst hx;exact ho) (by intro x hx;simp at hx;subst hx;exact hvo) h_f hl hs)
 clear h_p h_e h_a h_f hs hle ho hvo h_t htw hrd
 go_enter Tryz.func25,Tryz.ntmps25
 go_upto_region 1 with fail
 refine lift3P ?_
 intro w0 hW0 hq0 hq1 hq2
 obtain ⟨b0,b1,b2,b3,b4⟩:=cells5P hq0
 obtain ⟨rb,hrb⟩:∃ b,b=w.heap.size+1:=⟨_,rfl⟩
 obtain ⟨qb,hqb⟩:∃ b,b=rb+1:=⟨_,rfl⟩
 rw [← hrb] at hq1 ⊢
 rw [show w.heap.size+2=qb by omega] at hq2
 rw [← hqb]
 have RB0:=hidP (show PlB w0 rb (.slice none 0 0) (.slice none 0 0) from hq1)
 have RQ0:=hidP hq2
 have H0:=hidP hW0
 have hs0:=hW0.size
 have hrw:w.heap.size<rb:=by omega
 have hrq:rb<qb:=by omega
 have hq0':qb<w0.heap.size:=zab hq2
 have HA:=hidP (fun o=>(Below.refl _ _).alloc (Nat.le_refl _) o:∀ o,Below w0.heap.size w0 (w0.alloc o))
 have HNW:=hidP (heap_alloc_new w0)
 clear hW0 hq0 hq1 hq2 hrb hqb
 go_wp2_with fail
 refine (HR.out _ (H0.out.trans ((HA.out _).mono H0.out.size)) _ (HNW.out _)).mono ?_
 rintro e w1 ⟨he1,hb1⟩
 have B1:=hidP (Below.trans (HA.out _) (hb1.mono (HA.out _).size))
 have BW:=hidP (H0.out.trans (B1.out.mono H0.out.size))
 have RB1:=hidP (RB0.out.bel B1.out)
 have RQ1:=hidP ((B1.out.block _ (zab RQ0.out)).trans RQ0.out)
 have d0:=zaa B1.out b0
 have d1:=zaa B1.out b1
 have d2:=zaa B1.out b2
 have d3:=zaa B1.out b3
 have d4:=zaa B1.out b4
 have hs1:=B1.out.size
 clear hb1 b0 b1 b2 b3 b4 RB0 RQ0 HA HNW HR H0 B1
 by_cases hrdy:ready [r] fs=true
 ·rw [if_pos hrdy] at he1
  obtain ⟨xa,xc,PW,rfl,hPWl,hpls,_⟩:=he1
  obtain ⟨⟨ca,cc,va,vc,cs⟩,hPW⟩:∃ x,PW[0]?=some x:=⟨PW[0]'(by rw [hPWl];simp),by simp⟩
  obtain ⟨xb,xo,rfl,hxB,x0,x1,hpl,_,_⟩:=hpls w1 (Lko.refl _ _ _) 0 r _ rfl hPW
  have HPLA:=hidP (fun w'' (h:Lko w.heap.size (w0.heap.size+1) w1 w'')=>hpls w'' (by simpa using h) 0 r _ rfl hPW)
  have hxB':w0.heap.size≤xb:=by simp at hxB;omega
  clear hxB hPW hPWl
  have HPO:=hidP (fun w' (hb:Below w.heap.size w w')=>zbu r a_p c_p a_e c_e a_a c_a w' (HP.out.below hb) hrl)
  clear hpls
  have hplen:=hpl.len
  have hpeach:=hpl.each
  have hpsm:=hpl.small
  have PLEN:=hidP hplen
  have PEACH:=hidP hpeach
  have PSM:=hidP hpsm
  clear hpl hplen hpeach hpsm
  have hx1:xb<w1.heap.size:=ziY x0
  have hl1:([r]:List Ru).length=1:=rfl
  rw [hl1] at *
  by_cases hlen:tags.length=positives r.pats
  ·obtain ⟨hck,hgf,hf40⟩:=zbE hrdy
   obtain ⟨_,_,hp3⟩:=zdi hck (List.mem_singleton.2 rfl)
   have hkn:KnR r.pats [] 0:=zcT hck (List.mem_singleton.2 rfl)
   have hgf':zbm 0 fs=true:=by
    have h':(decide (fs.length≤40) && zbm 0 fs)=true:=hgf
    simp only [Bool.and_eq_true] at h'
    exact h'.2
   have HKN:=hidP hkn
   have HRDY:=hidP hrdy
   have HLEN:=hidP hlen
   have HGF:=hidP hgf'
   have ht3:tags.length≤3:=by omega
   have t1:((tags.length:Int) != (positives r.pats:Int))=false:=by simp;omega
   clear hlen hkn hck hgf hgf' hrdy
   go_wp2_with fail
   refine (HPO.out w1 BW.out).mono ?_
   rintro e w2 ⟨rfl,hb2⟩
   have BW2:=hidP (BW.out.trans (hb2.mono BW.out.size))
   have BP2:=hidP hb2
   have hs2:=hb2.size
   have PLC:=hidP (zjx fa fc fs 0 0 false w2 (HF.out.below BW2.out) hl HGF.out HRD.out)
   clear hb2 HPO d0 d1 d2 d3 d4
   go_wp2_with fail
   refine PLC.out.mono ?_
   rintro e w3 ⟨mb,MD,rfl,hom,hpi,hb3⟩
   have BW3:=hidP (BW2.out.trans (hb3.mono BW2.out.size))
   have BP3:=hidP (BP2.out.trans (hb3.mono BP2.out.size))
   have hs3:=hb3.size
   have OM3:=hidP hom
   have PI:=hidP hpi
   have hml:mb<w3.heap.size:=hom.lt
   clear hb3 hom hpi PLC BW2 BP2 BW
   go_upto_region 6 with fail
   refine zaj ?_
   intro w4 hW4 hq4
   obtain ⟨tkb,htk⟩:∃ b,b=w3.heap.size:=⟨_,rfl⟩
   rw [← htk] at hq4 ⊢
   have TK4:=hidP hq4
   have OM4:=hidP (show w4.ownsMap Tryz.prog 3 (plainElem Tryz.prog 3) mb fs.length MD from by
    obtain ⟨es,clock,h1,h2⟩:=OM3.out
    exact ⟨es,clock,(hW4.block mb hml).trans h1,h2⟩)
   have BP4:=hidP (BP3.out.trans (hW4.mono BP3.out.size))
   have BW4:=hidP (BW3.out.trans (hW4.mono BW3.out.size))
   have hmt:mb≠tkb:=by omega
   have hwt:w1.heap.size≤tkb:=by omega
   clear hW4 hq4 htk OM3 BP3 BW3
   go_wp2_with fail
   go_loopw [37] (fun iv wr=>∃ (k:Nat) (p0 p1 p2:Option Addr) (W:List F),iv=.int .i64 (k:Int)∧k≤tags.length∧WOk fs tags k W∧zdb w (.pointer p0) (.pointer p1) (.pointer p2) W∧wr.heap[tkb]?=some (.cells #[.pointer p0,.pointer p1,.pointer p2] 80 (0,0))∧wr.ownsMap Tryz.prog 3 (plainElem Tryz.prog 3) mb fs.length MD∧Below w1.heap.size w1 wr∧Below w.heap.size w wr) (fun iv _=>tags.length - (intOf iv).toNat)
   case atStart=>exact ⟨0,_,_,_,[],rfl,Nat.zero_le _,⟨rfl,rfl,fun f hf=>by simp at hf⟩,fun i f hi=>by simp at hi,TK4.out,OM4.out,BP4.out,BW4.out⟩
   case round=>
    obtain ⟨k,p0,p1,p2,W,rfl,hkl,hW,hTK,htk,hom,hbp,hbw⟩:=hrel
    have WK:=hidP hW
    have TA:=hidP hTK
    have TKR:=hidP htk
    have OMR:=hidP hom
    have BPR:=hidP hbp
    have BWR:=hidP hbw
    have RBR:=hidP (RB1.out.bel hbp)
    have RQR:=hidP ((hbp.block _ (zab RQ1.out)).trans RQ1.out)
    have htr:tkb<wr.heap.size:=zab htk
    have hsr:=hbp.size
    clear hW hTK htk hom hbp hbw TK4 OM4 BP4 BW4
    by_cases hk:k<tags.length
    ·obtain ⟨tg,htg⟩:∃ t,tags[k]?=some t:=⟨tags[k],by simp [hk]⟩
     obtain ⟨gb,go,rfl,_,g0⟩:=(zaU.below HTG.out BWR.out).get htg
     have htm:=List.mem_of_getElem? htg
     have hlk:=zl4 OMR.out PI.out (HTW.out tg htm)
     have z0:(0:Int)≤(k:Int):=by omega
     have z1:(k:Int)<(tags.length:Int):=by omega
     have z2:(k:Int)<3:=by omega
     cases hfi:fidx tg fs with
     | none=>
      have HN:=hidP (show za3 r fs tags=false from zjs htm (zhA hfi))
      rw [hfi] at hlk
      have hlk':(Instr.lookup 145 (.map (some mb)) (.int .i64 tg) true).run Tryz.prog wr=.ok (.tuple #[.int .i64 0,.bool false]) wr:=hlk
      have BW:=BWR
      obtain ⟨⟨m0,m1⟩,mz,_⟩:=RBR.out.facts
      have mz0:=mz 0
      have mz1:=mz 1
      clear mz
      obtain ⟨n0,n1,n2⟩:=cells3P RQR.out
      have nz0:wr.frozen? ⟨qb,0,none⟩=false:=by simp [World.frozen?,RQR.out]
      have nz1:wr.frozen? ⟨qb,1,none⟩=false:=by simp [World.frozen?,RQR.out]
      have nz2:wr.frozen? ⟨qb,2,none⟩=false:=by simp [World.frozen?,RQR.out]
      clear hfi hlk htm htg
      go_wp2_with fail
      refine bodyPost_ret (v:=.tuple #[.agg #[.slice none 0 0,.slice none 0 0],.agg #[.pointer none,.pointer none,.pointer none],.bool false]) (by simp [results,Tryz.results25,go_sem,m0,m1,n0,n1,n2]) rfl ?_
      refine ⟨⟨none,0,0,none,0,0,none,none,none,by rw [HN.out],fun h=>by rw [HN.out] at h;cases h⟩,?_⟩
      exact (((((BW.out.setCell (by simp;omega) _).setCell (by simp;omega) _).setCell (by simp;omega) _).setCell (by simp;omega) _).setCell (by simp;omega) _)
     | some n=>
      obtain ⟨f,hfn,hft⟩:=zhg hfi
      obtain ⟨fb,fo,rfl,f0,f1,sa,sc,f2,hsv⟩:=HF.out n f hfn
      have HFC:=hidP (show zcs w (.pointer (some ⟨fb,fo+n * 3,none⟩)) f from ⟨fb,fo+n * 3,rfl,f0,f1,sa,sc,f2,hsv⟩)
      have HWS:=hidP (WK.out.snoc (f:=f) (by rw [htg,hft]) (List.mem_of_getElem? hfn))
      have hnl:n<fs.length:=(List.getElem?_eq_some_iff.1 hfn).1
      have y0:(0:Int)≤(n:Int):=by omega
      have y1:(n:Int)<(fs.length:Int):=by omega
      rw [hfi] at hlk
      have hlk':(Instr.lookup 145 (.map (some mb)) (.int .i64 tg) true).run Tryz.prog wr=.ok (.tuple #[.int .i64 (n:Int),.bool true]) wr:=hlk
      obtain ⟨pk,hpk⟩:∃ pk,wr.cell? ⟨tkb,k,none⟩=some pk:=by
       have:=TKR.out
       rcases (show k=0∨k=1∨k=2 by omega) with rfl | rfl | rfl
       ·exact ⟨.pointer p0,by simp [World.cell?,this]⟩
       ·exact ⟨.pointer p1,by simp [World.cell?,this]⟩
       ·exact ⟨.pointer p2,by simp [World.cell?,this]⟩
      have hfz:wr.frozen? ⟨tkb,k,none⟩=false:=by simp [World.frozen?,TKR.out]
      have hk3:k<3:=by omega
      clear hfi hlk htm htg hfn hft f0 f1 f2 hsv
      go_upto_region 13 with fail
      refine zkc TKR.out hk3 ?_
      intro w5 q0 q1 q2 hq5 hset ht5
      have TK5:=hidP hq5
      have TA5:=hidP (TA.out.snoc WK.out.1 hk3 hset HFC.out)
      have OM5:=hidP (show w5.ownsMap Tryz.prog 3 (plainElem Tryz.prog 3) mb fs.length MD from by
       obtain ⟨es,clock,h1,h2⟩:=OMR.out
       exact ⟨es,clock,(ht5.block mb hmt).trans h1,h2⟩)
      have BP5:=hidP (BPR.out.trans (ht5.below hwt))
      have BW5:=hidP (BWR.out.trans (ht5.below (by omega)))
      clear hq5 hset ht5 hpk hfz
      go_wp2_with fail
      go_roundw
      case rel=>exact ⟨k+1,q0,q1,q2,_,by go_num,by omega,HWS.out,TA5.out,TK5.out,OM5.out,BP5.out,BW5.out⟩
      case measure=>(simp [intOf];omega)
    ·have hke:k=tags.length:=by omega
     subst hke
     have hy:¬ (tags.length:Int)<(tags.length:Int):=by omega
     have hWl:W.length=tags.length:=WK.out.1
     have hWt:W.map (·.tag)=tags:=by rw [WK.out.2.1,List.take_length]
     have HPL:=hidP (fun w'' (h:Lko w.heap.size (w0.heap.size+1) w1 w'')=>(by
      obtain ⟨xb',xo',e,_,h0,h1,h2,_,h4⟩:=HPLA.out w'' h
      cases e
      exact ⟨by simpa using h0,by simpa using h1,h2,by simpa using h4⟩:w''.cell? ⟨xb,xo,none⟩=some (.slice ca cs.length cc)∧w''.cell? ⟨xb,xo+1,none⟩=some (.slice va (zaK r.pats [] 0).length vc)∧zjP w'' fs ca va r cs∧w''.ownsRow (w0.heap.size+1) 215 3 (.slice va (zaK r.pats [] 0).length vc) (zaK r.pats [] 0).length ((zaK r.pats [] 0).flatMap zbA)))
     have HHO:=hidP (fun w' (h:Lko w.heap.size (w0.heap.size+1) w1 w') (hb:Below w.heap.size w w')=>zgu cs ca cc (.slice va (zaK r.pats [] 0).length vc) (.pointer p0) (.pointer p1) (.pointer p2) W w' (HPL.out w' h).2.2.1.conds (TA.out.below hb) (Nat.le_trans (Nat.le_of_eq PLEN.out) (Nat.le_trans (Nat.le_of_eq (zdu r.pats [] 0)) hrl)) PSM.out (zm8 HKN.out (by rw [hWl,HLEN.out];exact Nat.le_refl _) PLEN.out PEACH.out))
     have HEQ:=hidP (show cs.all (okC W)=za3 r fs tags by rw [zmY PLEN.out PEACH.out,← hWt];exact (ziz HRDY.out (ze9 HGF.out) WK.out.2.2 (by rw [hWl,HLEN.out])).symm)
     rw [HEQ.out] at HHO
     have hxr:xb≠rb:=by omega
     have hxq:xb≠qb:=by omega
     have LK0:=hidP (show Lko w.heap.size (w0.heap.size+1) w1 wr.drew from Lko.of_below BPR.out.drew)
     have BW0:=hidP (show Below w.heap.size w wr.drew from BWR.out.drew)
     have RB0:=hidP (show PlB wr.drew rb (.slice none 0 0) (.slice none 0 0) from RBR.out)
     have RQ0:=hidP (show wr.drew.heap[qb]?=_ from RQR.out)
     have TK0:=hidP (show wr.drew.heap[tkb]?=_ from TKR.out)
     have HS0:=hidP (show wr.drew.cell? ⟨xb,xo,none⟩=some (.slice ca cs.length cc)∧wr.drew.cell? ⟨xb,xo+1,none⟩=some (.slice va (zaK r.pats [] 0).length vc)∧wr.drew.cell? ⟨tkb,0,none⟩=some (.pointer p0)∧wr.drew.cell? ⟨tkb,1,none⟩=some (.pointer p1)∧wr.drew.cell? ⟨tkb,2,none⟩=some (.pointer p2) from ⟨(HPL.out _ LK0.out).1,(HPL.out _ LK0.out).2.1,cells3P TK0.out⟩)
     have htq:qb<tkb:=by omega
     clear hWl hWt HEQ x0 x1 RBR RQR TKR
     go_wp2_with fail
     refine wp_region_noPanic ?_
     refine wp_region_held_drew (S:=(fun w'=>w'.cell? ⟨xb,xo,none⟩=some (.slice ca cs.length cc)∧w'.cell? ⟨xb,xo+1,none⟩=some (.slice va (zaK r.pats [] 0).length vc)∧w'.cell? ⟨tkb,0,none⟩=some (.pointer p0)∧w'.cell? ⟨tkb,1,none⟩=some (.pointer p1)∧w'.cell? ⟨tkb,2,none⟩=some (.pointer p2))) (by kernel_rfl) ?_ (fun hHeld=>?_)
     ·(try dsimp only)
      exact HS0.out
     refine tk 0 hHeld ?_
     (try simp only [pA,pZ,pS])
     refine tk 1 hHeld ?_
     (try simp only [pA,pZ,pS])
     refine tk 2 hHeld ?_
     (try simp only [pA,pZ,pS])
     refine tk 3 hHeld ?_
     (try simp only [pA,pZ,pS])
     refine tk 4 hHeld ?_
     (try simp only [pA,pZ,pS])
     refine tk 5 hHeld ?_
     (try simp only [pA,pZ,pS])
     refine tk 6 hHeld ?_
     (try simp only [pA,pZ,pS])
     refine tk 7 hHeld ?_
     (try simp only [pA,pZ,pS])
     refine wpAnyH_ready (rs:=[8]) (by kernel_rfl) (by simp) ?_
     refine AllReadyH.cons (List.getElem?_toArray.trans rfl) (fun K hK=>?_) AllReadyH.nil
     go_simp
     (go_at_call 63;refine (HHO.out _ LK0.out BW0.out).mono ?_;rintro e' wc1 ⟨rfl,hbC⟩)
     (try go_wp2_with fail)
     refine hK.out _ _ ?hS4 (fun hHeld=>?_)
     case hS4=>((try dsimp only);exact ⟨zaa hbC HS0.out.1,zaa hbC HS0.out.2.1,zaa hbC HS0.out.2.2.1,zaa hbC HS0.out.2.2.2.1,zaa hbC HS0.out.2.2.2.2⟩)
     clear hK K
     (first | simp only [pA,pZ,pS] | simp only [pN] | skip)
     have LK2:=hidP (LK0.out.trans (Lko.of_below hbC))
     have BW2:=hidP (BW0.out.trans (hbC.mono BW0.out.size))
     have RB2:=hidP (RB0.out.bel hbC)
     have RQ2:=hidP ((hbC.block _ (zab RQ0.out)).trans RQ0.out)
     have TK2:=hidP ((hbC.block _ (zab TK0.out)).trans TK0.out)
     clear hbC
     have HS2:=hidP (show wc1.cell? ⟨xb,xo,none⟩=some (.slice ca cs.length cc)∧wc1.cell? ⟨xb,xo+1,none⟩=some (.slice va (zaK r.pats [] 0).length vc)∧wc1.cell? ⟨tkb,0,none⟩=some (.pointer p0)∧wc1.cell? ⟨tkb,1,none⟩=some (.pointer p1)∧wc1.cell? ⟨tkb,2,none⟩=some (.pointer p2) from ⟨(HPL.out wc1 LK2.out).1,(HPL.out wc1 LK2.out).2.1,cells3P TK2.out⟩)
     obtain ⟨⟨m0,m1⟩,mz,_⟩:=RB2.out.facts
     have mz0:=mz 0
     have mz1:=mz 1
     clear mz
     have HL6:=hidP (fun (w':World) (ht:Turned wc1 w' rb)=>(show w'.cell? ⟨xb,xo,none⟩=some (.slice ca cs.length cc)∧w'.cell? ⟨xb,xo+1,none⟩=some (.slice va (zaK r.pats [] 0).length vc)∧w'.cell? ⟨tkb,0,none⟩=some (.pointer p0)∧w'.cell? ⟨tkb,1,none⟩=some (.pointer p1)∧w'.cell? ⟨tkb,2,none⟩=some (.pointer p2) from ⟨(World.cell?_of_block (w:=wc1) (ht.block xb hxr)).trans HS2.out.1,(World.cell?_of_block (w:=wc1) (ht.block xb hxr)).trans HS2.out.2.1,cells3P ((ht.block tkb (by omega)).trans TK2.out)⟩))
     refine wpAnyH_ready (rs:=[9]) (by kernel_rfl) (by simp) ?_
     refine AllReadyH.cons (List.getElem?_toArray.trans rfl) (fun K hK=>?_) AllReadyH.nil
     go_simp
     refine hK.out _ _ ?hS8 (fun hHeld=>?_)
     case hS8=>((try dsimp only);exact HL6.out _ (Turned.setCells [_,_] 0 _ _))
     clear hK K
     (first | simp only [pA,pZ,pS] | simp only [pN] | skip)
     generalize hwt:((wc1).setCell ⟨rb,0,none⟩ (.slice ca cs.length cc)).setCell ⟨rb,1,none⟩ (.slice va (zaK r.pats [] 0).length vc)=wp5 at hHeld ⊢
     have ht:Turned (wc1) wp5 rb:=by rw [← hwt];exact Turned.setCells [(.slice ca cs.length cc),(.slice va (zaK r.pats [] 0).length vc)] 0 _ rb
     have RB6:=hidP (show PlB wp5 rb (.slice ca cs.length cc) (.slice va (zaK r.pats [] 0).length vc) from by rw [← hwt];exact (RB2.out.set0 _).set1 _)
     have LK6:=hidP (LK2.out.trans (Lko.of_turned ht (by omega) (by omega)))
     have BW6:=hidP (BW2.out.trans (ht.below (by omega)))
     have RQ6:=hidP ((ht.block qb (by omega)).trans RQ2.out)
     have TK6:=hidP ((ht.block tkb (by omega)).trans TK2.out)
     clear hwt ht m0 m1 mz0 mz1 HL6
     have HS6:=hidP (show wp5.cell? ⟨xb,xo,none⟩=some (.slice ca cs.length cc)∧wp5.cell? ⟨xb,xo+1,none⟩=some (.slice va (zaK r.pats [] 0).length vc)∧wp5.cell? ⟨tkb,0,none⟩=some (.pointer p0)∧wp5.cell? ⟨tkb,1,none⟩=some (.pointer p1)∧wp5.cell? ⟨tkb,2,none⟩=some (.pointer p2) from ⟨(HPL.out wp5 LK6.out).1,(HPL.out wp5 LK6.out).2.1,cells3P TK6.out⟩)
     obtain ⟨n0,n1,n2⟩:=cells3P RQ6.out
     have nz0:(wp5).frozen? ⟨qb,0,none⟩=false:=by have:=RQ6.out;simp [World.frozen?,this]
     have nz1:(wp5).frozen? ⟨qb,1,none⟩=false:=by have:=RQ6.out;simp [World.frozen?,this]
     have nz2:(wp5).frozen? ⟨qb,2,none⟩=false:=by have:=RQ6.out;simp [World.frozen?,this]
     have HL10:=hidP (fun (w':World) (ht:Turned wp5 w' qb)=>(show w'.cell? ⟨xb,xo,none⟩=some (.slice ca cs.length cc)∧w'.cell? ⟨xb,xo+1,none⟩=some (.slice va (zaK r.pats [] 0).length vc)∧w'.cell? ⟨tkb,0,none⟩=some (.pointer p0)∧w'.cell? ⟨tkb,1,none⟩=some (.pointer p1)∧w'.cell? ⟨tkb,2,none⟩=some (.pointer p2) from ⟨(World.cell?_of_block (w:=wp5) (ht.block xb hxq)).trans HS6.out.1,(World.cell?_of_block (w:=wp5) (ht.block xb hxq)).trans HS6.out.2.1,cells3P ((ht.block tkb (by omega)).trans TK6.out)⟩))
     refine wpAnyH_ready (rs:=[10]) (by kernel_rfl) (by simp) ?_
     refine AllReadyH.cons (List.getElem?_toArray.trans rfl) (fun K hK=>?_) AllReadyH.nil
     go_simp
     refine hK.out _ _ ?hS12 (fun hHeld=>?_)
     case hS12=>((try dsimp only);exact HL10.out _ (Turned.setCells [_,_,_] 0 _ _))
     clear hK K
     (first | simp only [pA,pZ,pS] | simp only [pN] | skip)
     generalize hwt:(((wp5).setCell ⟨qb,0,none⟩ (.pointer p0)).setCell ⟨qb,1,none⟩ (.pointer p1)).setCell ⟨qb,2,none⟩ (.pointer p2)=wq9 at hHeld ⊢
     have ht:Turned (wp5) wq9 qb:=by rw [← hwt];exact Turned.setCells [.pointer p0,.pointer p1,.pointer p2] 0 _ qb
     have RQ10:=hidP (show wq9.heap[qb]?=some (.cells #[.pointer p0,.pointer p1,.pointer p2] 80 (0,0)) from by
      rw [← hwt]
      have h1:=zad (i:=0) RQ6.out (.pointer p0)
      have h2:=zad (i:=1) h1 (.pointer p1)
      have h3:=zad (i:=2) h2 (.pointer p2)
      simpa using h3)
     have LK10:=hidP (LK6.out.trans (Lko.of_turned ht (by omega) (by omega)))
     have BW10:=hidP (BW6.out.trans (ht.below (by omega)))
     have RB10:=hidP (show PlB wq9 rb (.slice ca cs.length cc) (.slice va (zaK r.pats [] 0).length vc) from (ht.block rb (by omega)).trans RB6.out)
     have TK10:=hidP ((ht.block tkb (by omega)).trans TK6.out)
     clear hwt ht n0 n1 n2 nz0 nz1 nz2 HL10
     have HS10:=hidP (show wq9.cell? ⟨xb,xo,none⟩=some (.slice ca cs.length cc)∧wq9.cell? ⟨xb,xo+1,none⟩=some (.slice va (zaK r.pats [] 0).length vc)∧wq9.cell? ⟨tkb,0,none⟩=some (.pointer p0)∧wq9.cell? ⟨tkb,1,none⟩=some (.pointer p1)∧wq9.cell? ⟨tkb,2,none⟩=some (.pointer p2) from ⟨(HPL.out wq9 LK10.out).1,(HPL.out wq9 LK10.out).2.1,cells3P TK10.out⟩)
     refine tk 11 hHeld ?_
     (try simp only [pA,pZ,pS])
     refine wpAnyH_done (by kernel_rfl) ?_ _
     refine NoPanic.normal ?_
     go_wp2_with fail
     obtain ⟨⟨k0,k1⟩,_,_⟩:=RB10.out.facts
     obtain ⟨j0,j1,j2⟩:=cells3P RQ10.out
     refine bodyPost_ret (v:=.tuple #[.agg #[.slice ca cs.length cc,.slice va (zaK r.pats [] 0).length vc],.agg #[.pointer p0,.pointer p1,.pointer p2],.bool (za3 r fs tags)]) (by simp [results,Tryz.results25,go_sem,k0,k1,j0,j1,j2]) rfl ?_
     exact ⟨⟨ca,cs.length,cc,va,(zaK r.pats [] 0).length,vc,p0,p1,p2,rfl,fun _=>⟨W,rfl,zar (HPL.out _ LK10.out).2.2.2 (by omega),TA.out.below BW10.out,WK.out,HLEN.out,HRDY.out⟩⟩,BW10.out⟩
  ·have HN:=hidP (zg2 (fs:=fs) hlen)
   have t1:((tags.length:Int) != (positives r.pats:Int))=true:=by simp;omega
   clear hlen
   go_wp2_with fail
   refine (HPO.out w1 BW.out).mono ?_
   rintro e w2 ⟨rfl,hb2⟩
   have BW2:=hidP (BW.out.trans (hb2.mono BW.out.size))
   have RB2:=hidP (RB1.out.bel hb2)
   have RQ2:=hidP ((hb2.block _ (zab RQ1.out)).trans RQ1.out)
   clear BW
   have BW:=BW2
   obtain ⟨⟨m0,m1⟩,mz,_⟩:=RB2.out.facts
   have mz0:=mz 0
   have mz1:=mz 1
   clear mz
   obtain ⟨n0,n1,n2⟩:=cells3P RQ2.out
   have nz0:w2.frozen? ⟨qb,0,none⟩=false:=by simp [World.frozen?,RQ2.out]
   have nz1:w2.frozen? ⟨qb,1,none⟩=false:=by simp [World.frozen?,RQ2.out]
   have nz2:w2.frozen? ⟨qb,2,none⟩=false:=by simp [World.frozen?,RQ2.out]
   clear hb2 HPO
   go_wp2_with fail
   refine bodyPost_ret (v:=.tuple #[.agg #[.slice none 0 0,.slice none 0 0],.agg #[.pointer none,.pointer none,.pointer none],.bool false]) (by simp [results,Tryz.results25,go_sem,m0,m1,n0,n1,n2]) rfl ?_
   refine ⟨⟨none,0,0,none,0,0,none,none,none,by rw [HN.out],fun h=>by rw [HN.out] at h;cases h⟩,?_⟩
   exact (((((BW.out.setCell (by simp;omega) _).setCell (by simp;omega) _).setCell (by simp;omega) _).setCell (by simp;omega) _).setCell (by simp;omega) _)
 ·rw [if_neg hrdy] at he1
  subst he1
  have HN:=hidP (zjL (tags:=tags) (show ready [r] fs=false by simpa using hrdy))
  obtain ⟨⟨m0,m1⟩,mz,_⟩:=RB1.out.facts
  have mz0:=mz 0
  have mz1:=mz 1
  clear mz
  obtain ⟨n0,n1,n2⟩:=cells3P RQ1.out
  have nz0:w1.frozen? ⟨qb,0,none⟩=false:=by simp [World.frozen?,RQ1.out]
  have nz1:w1.frozen? ⟨qb,1,none⟩=false:=by simp [World.frozen?,RQ1.out]
  have nz2:w1.frozen? ⟨qb,2,none⟩=false:=by simp [World.frozen?,RQ1.out]
  clear hrdy
  go_wp2_with fail
  refine bodyPost_ret (v:=.tuple #[.agg #[.slice none 0 0,.slice none 0 0],.agg #[.pointer none,.pointer none,.pointer none],.bool false]) (by simp [results,Tryz.results25,go_sem,m0,m1,n0,n1,n2]) rfl ?_
  refine ⟨⟨none,0,0,none,0,0,none,none,none,by rw [HN.out],fun h=>by rw [HN.out] at h;cases h⟩,?_⟩
  exact (((((BW.out.setCell (by simp;omega) _).setCell (by simp;omega) _).setCell (by simp;omega) _).setCell (by simp;omega) _).setCell (by simp;omega) _)
end Go.Proofs.YtmmdlgjmplddiaaGreat
namespace Go.Proofs.YtmmdlgjmplddiaaGreat
open Go.RowKit Go.Maps
attribute [local go_sem ↓] Go.wp_at_zero Go.wp_at_succ
set_option maxRecDepth 100000 in
set_option maxHeartbeats 3200000 in
theorem zjv (r:Ru) (fs:List F) (tags:List Int) (a_p:Option Addr) (c_p:Nat) (a_e:Option Addr) (c_e:Nat) (a_a:Option Addr) (c_a:Nat) (fa:Option Addr) (fc:Nat) (ta:Option Addr) (tc:Nat) {q q':Option Nat} (w:World) (h_p:zbY q w a_p r.pats) (h_e:za8 q w a_e r.exprs) (h_a:zcu q w a_a r.acts) (hce:r.exprs.length≤c_e) (hle:zbs Ru.le 1048576 [r]) (ho:zd0 r.exprs) (hvo:∀ p∈r.pats,∀ t∈p.terms,VOk t.val) (h_f:zaG w fa fs) (hl:fs.length≤1048576) (hs:∀ f∈fs,Sized f) (hrd:∀ f∈fs,Read f) (h_t:zaU q' w ta tags) (htl:tags.length≤1048576) (htw:∀ t∈tags,(Lit.int .i64 t).wf=true) :
  Calls Tryz.prog 8 #[.agg #[.string r.name,.int .i64 r.sal,.slice a_p r.pats.length c_p,.slice a_e r.exprs.length c_e,.slice a_a r.acts.length c_a],.slice fa fs.length fc,.slice ta tags.length tc] w fun e w'=>e=.returned (.bool (za3 r fs tags))∧Below w.heap.size w w':=by
 have HM:=hidP (fun wt (hb:Below w.heap.size w wt)=>ziA r fs tags a_p c_p a_e c_e a_a c_a fa fc ta tc wt (h_p.below hb) (h_e.below hb) (h_a.below hb) hce hle ho hvo (h_f.below hb) hl hs hrd (h_t.below hb) htl htw)
 clear h_p h_e h_a hle ho hvo h_f hs hrd h_t htw
 go_enter Tryz.func8,Tryz.ntmps8
 go_upto_region 1 with fail
 refine zaj ?_
 intro w0 hW0 hq0
 obtain ⟨b0,b1,b2,b3,b4⟩:=cells5P hq0
 have H0:=hidP hW0
 clear hW0 hq0
 go_wp2_with fail
 refine (HM.out w0 H0.out).mono ?_
 rintro e w1 ⟨⟨ca,n,cc,va,m,vc,u0,u1,u2,rfl,_⟩,hb1⟩
 have B1:=hidP (H0.out.trans (hb1.mono H0.out.size))
 clear hb1 HM H0 b0 b1 b2 b3 b4
 go_wp2_with fail
 go_ret
 exact ⟨rfl,(B1.out.alloc B1.out.size _).alloc (by have:=B1.out.size;simp;omega) _⟩
end Go.Proofs.YtmmdlgjmplddiaaGreat
namespace Go.Proofs.YtmmdlgjmplddiaaGreat
open Go.RowKit
attribute [local go_sem ↓] Go.wp_at_zero Go.wp_at_succ
theorem cells2P' {w:World}{b:Nat}{ty:TypeId}{x0 x1:Value} (h:w.heap[b]?=some (.cells #[x0,x1] ty (0,0))):w.cell? ⟨b,0,none⟩=some x0∧w.cell? ⟨b,1,none⟩=some x1:=by
 refine ⟨?_,?_⟩ <;> simp [World.cell?,h]
set_option maxHeartbeats 1600000 in
theorem zji (k nb:Nat) (ng ct ts:Value) (fa:Option Addr) (n fc:Nat) (w:World) (hn:w.cell? ⟨nb,4,none⟩=some (.slice fa n fc)) :
  Calls Tryz.prog 58 #[.agg #[.int .i64 (-1),.pointer none],.int .i64 (k:Int),.agg #[ng,ct,.pointer (some ⟨nb,0,none⟩),ts]] w fun e w'=>e=.returned (.slice fa n fc)∧Below w.heap.size w w':=by
 have e1:((k:Int) == -1)=false:=by simp
 go_enter Tryz.func58,Tryz.ntmps58
 go_upto_region 1 with fail
 refine lift2P ?_
 intro w0 hW0 hq0 hq1
 obtain ⟨a0,a1⟩:=cells2P' hq0
 obtain ⟨_,_,c2,_⟩:=cells4P hq1
 have n4:=zaa hW0 hn
 have B0:=hidP hW0
 clear hW0 hq0 hq1 hn
 go_wp2_with fail
 go_ret
 exact ⟨rfl,B0.out⟩
set_option maxHeartbeats 1600000 in
theorem zjw (k:Nat) (ng ct nd ts p0 p1 p2:Value) (w:World) :
  Calls Tryz.prog 56 #[.agg #[.int .i64 (-1),.pointer none],.int .i64 (k:Int),.agg #[ng,ct,nd,ts],.agg #[p0,p1,p2]] w fun e w'=>e=.returned (.bool false)∧Below w.heap.size w w':=by
 have e1:((k:Int) == -1)=false:=by simp
 go_enter Tryz.func56,Tryz.ntmps56
 go_upto_region 1 with fail
 refine lift3P ?_
 intro w0 hW0 hq0 hq1 hq2
 obtain ⟨a0,a1⟩:=cells2P' hq0
 have B0:=hidP hW0
 clear hW0 hq0 hq1 hq2
 go_wp2_with fail
 go_ret
 exact ⟨rfl,B0.out⟩
end Go.Proofs.YtmmdlgjmplddiaaGreat
namespace Go.Proofs.YtmmdlgjmplddiaaGreat
def zcK:List Cn→List F→List (List F)
 | [],T=>[T]
 | c :: cs,T=>if c.neg=true then (if c.facts.any (fun f=>c.tests.all (zaI T f))=true then [] else zcK cs T) else c.facts.flatMap (fun f=>if c.tests.all (zaI T f)=true then zcK cs (T ++ [f]) else [])
theorem zhU {c:Cn}{cs:List Cn}{T:List F} (h:c.neg=true):zcK (c :: cs) T=if c.facts.any (fun f=>c.tests.all (zaI T f))=true then [] else zcK cs T:=by
 simp only [zcK]
 rw [if_pos h]
theorem zhc {c:Cn}{cs:List Cn}{T:List F} (h:c.neg=false):zcK (c :: cs) T=c.facts.flatMap (fun f=>if c.tests.all (zaI T f)=true then zcK cs (T ++ [f]) else []):=by
 simp only [zcK]
 rw [if_neg (by rw [h];simp)]
theorem zcZ {α β:Type} (p q:α→Bool) (g:α→List β):∀ l:List α,(l.filter p).flatMap (fun x=>if q x=true then g x else [])=(l.filter (fun x=>p x && q x)).flatMap g
 | []=>rfl
 | x :: r=>by
  by_cases hp:p x=true
  ·by_cases hq:q x=true
   ·rw [List.filter_cons_of_pos hp,List.filter_cons_of_pos (by simp [hp,hq]),List.flatMap_cons,List.flatMap_cons,if_pos hq,zcZ p q g r]
   ·rw [List.filter_cons_of_pos hp,List.filter_cons_of_neg (by simp [hq]),List.flatMap_cons,if_neg hq,zcZ p q g r]
    rfl
  ·rw [List.filter_cons_of_neg hp,List.filter_cons_of_neg (by simp [hp]),zcZ p q g r]
theorem ziL {fs:List F}:∀ (cs:List Cn) (ds:List Cp),cs.length=ds.length→(∀ (k:Nat) (c:Cn) (d:Cp),cs[k]?=some c→ds[k]?=some d→CnCp fs c d)→∀ T,zcK cs T=exts ds fs T
 | [],[],_,_,_=>rfl
 | [],_ :: _,h,_,_=>by simp at h
 | _ :: _,[],h,_,_=>by simp at h
 | c :: cs,d :: ds,hl,he,T=>by
  obtain ⟨h1,h2,h3,h4,h5⟩:=he 0 c d rfl rfl
  have ih:=ziL cs ds (by simpa using hl) (fun k c' d' hc hd=>he (k+1) c' d' (by simpa using hc) (by simpa using hd))
  simp only [zcK,exts]
  rw [h1,h3,h5,zc8,zcZ]
  simp only [ih]
  rfl
def SrOk:List Cn→List F→Prop
 | [],_=>True
 | c :: cs,T=>c.at_=T.length∧(c.neg=false→T.length<3)∧(∀ f∈c.facts,∀ t∈c.tests,t.fits T f)∧(if c.neg=true then SrOk cs T else ∀ f∈c.facts,c.tests.all (zaI T f)=true→SrOk cs (T ++ [f]))
theorem VIn.snoc {T:List F}{vs:List Vr}{f:F} (h:VIn T vs):VIn (T ++ [f]) vs:=fun v hv=>by
 obtain ⟨g,h1,h2⟩:=h v hv
 exact ⟨g,by rw [List.getElem?_append_left (List.getElem?_eq_some_iff.1 h1).1];exact h1,h2⟩
theorem zfx {fs:List F}:∀ (ps:List Pt) (vs:List Vr) (T:List F) (cs:List Cn),KnR ps vs T.length→VIn T vs→T.length+positives ps≤3→cs.length=(zax ps vs T.length).length→(∀ (k:Nat) (c:Cn) (d:Cp),cs[k]?=some c→(zax ps vs T.length)[k]?=some d→CnCp fs c d)→SrOk cs T
 | [],_,_,[],_,_,_,_,_=>trivial
 | [],_,_,_ :: _,_,_,_,h,_=>by simp [zax] at h
 | _ :: _,_,_,[],_,_,_,h,_=>by simp [zax] at h
 | p :: ps,vs,T,c :: cs,hk,hV,hn,hl,he=>by
  obtain ⟨hg,_,hrest⟩:=hk
  simp only [zax] at hl he
  obtain ⟨h1,h2,h3,h4,h5⟩:=he 0 c _ rfl rfl
  simp only at h1 h2 h3 h4 h5
  have hfit:∀ f∈c.facts,∀ t∈c.tests,t.fits T f:=fun f hf=>by
   rw [h5] at hf
   rw [h3]
   exact zft hV hg (List.mem_filter.1 hf).2
  have he':∀ (k:Nat) (c':Cn) (d':Cp),cs[k]?=some c'→(if p.neg=true then zax ps vs T.length else zax ps (zao vs p.terms T.length p.terms.length) (T.length+1))[k]?=some d'→CnCp fs c' d':=fun k c' d' hc hd=>he (k+1) c' d' (by simpa using hc) (by simpa using hd)
  have hl':cs.length=(if p.neg=true then zax ps vs T.length else zax ps (zao vs p.terms T.length p.terms.length) (T.length+1)).length:=by simpa using hl
  by_cases hneg:p.neg=true
  ·have hpos:positives (p :: ps)=positives ps:=by simp [positives,pos1,hneg]
   rw [if_pos hneg] at hrest hl' he'
   refine ⟨h2,fun hc=>?_,hfit,?_⟩
   ·rw [h1,hneg] at hc
    cases hc
   ·rw [if_pos (by rw [h1];exact hneg)]
    exact zfx ps vs T cs hrest hV (by omega) hl' he'
  ·have hpos:positives (p :: ps)=positives ps+1:=by simp [positives,pos1,hneg]
   rw [if_neg hneg] at hrest hl' he'
   refine ⟨h2,fun _=>by omega,hfit,?_⟩
   rw [if_neg (by rw [h1];exact hneg)]
   intro f hf _
   rw [h5] at hf
   have hp:=(List.mem_filter.1 hf).2
   have hlen:(T ++ [f]).length=T.length+1:=by simp
   refine zfx ps _ (T ++ [f]) cs (by rw [hlen];exact hrest) (zgp hV.snoc (g:=f) (by simp) (zdm hg hp) _ (Nat.le_refl _)) (by rw [hlen];omega) (by rw [hlen];exact hl') (by rw [hlen];exact he')
end Go.Proofs.YtmmdlgjmplddiaaGreat
namespace Go.Proofs.YtmmdlgjmplddiaaGreat
open Go.RowKit Go.Maps
structure Kq (cb L M:Nat) (W W':World):Prop where
 os:W'.os=W.os
 tape:W'.tape=W.tape
 output:W'.output=W.output
 size:W.heap.size≤W'.heap.size
 block:∀ k,k<W.heap.size→k≠cb→(k<L∨((k<M∨∃ c t fr,W.heap[k]?=some (.cells c t fr))∧∀ c fr,W.heap[k]?≠some (.cells c 46 fr)))→W'.heap[k]?=W.heap[k]?
theorem Kq.refl (cb L M:Nat) (W:World):Kq cb L M W W:=⟨rfl,rfl,rfl,Nat.le_refl _,fun _ _ _ _=>rfl⟩
theorem Kq.trans {cb L M:Nat}{U V W:World} (h:Kq cb L M U V) (k:Kq cb L M V W):Kq cb L M U W:=
 ⟨k.os.trans h.os,k.tape.trans h.tape,k.output.trans h.output,Nat.le_trans h.size k.size,fun j hj h1 h2=>by
  have e:=h.block j hj h1 h2
  refine (k.block j (Nat.lt_of_lt_of_le hj h.size) h1 ?_).trans e
  rcases h2 with h2 | ⟨h2,h3⟩
  ·exact .inl h2
  ·refine .inr ⟨?_,fun c fr h4=>h3 c fr (e.symm.trans h4)⟩
   rcases h2 with h2 | ⟨c,t,fr,h2⟩
   ·exact .inl h2
   ·exact .inr ⟨c,t,fr,e.trans h2⟩⟩
theorem Kq.of_below {cb L M:Nat}{W W':World} (h:Below W.heap.size W W'):Kq cb L M W W':=⟨h.os,h.tape,h.output,h.size,fun j hj _ _=>h.block j hj⟩
theorem Kq.box {cb L M b:Nat}{W W':World}{c:Array Value}{t:TypeId}{fr:Nat × Nat} (h:Kq cb L M W W') (hb:W.heap[b]?=some (.cells c t fr)) (hne:b≠cb) (ht:t≠46):W'.heap[b]?=some (.cells c t fr):=
 (h.block b (zab hb) hne (.inr ⟨.inr ⟨c,t,fr,hb⟩,fun c' fr' e=>ht (by rw [hb] at e;injection e with e;injection e)⟩)).trans hb
theorem Kq.lko {cb L M E B:Nat}{w1 W W':World} (h:Lko E B w1 W) (k:Kq cb L M W W') (hL:w1.heap.size≤L) (h1:E≤cb) (h2:cb<B):Lko E B w1 W':=
 ⟨k.os.trans h.os,k.tape.trans h.tape,k.output.trans h.output,Nat.le_trans h.size k.size,fun g hg h3=>(k.block g (Nat.lt_of_lt_of_le hg h.size) (by omega) (.inl (by omega))).trans (h.block g hg h3)⟩
abbrev Tk3:=Option Addr × Option Addr × Option Addr
structure SK where
 wE:World
 w1:World
 B:Nat
 cb:Nat
 M:Nat
 l:Nat
 pb:Nat
 yb:Nat
 sb:Nat
 xb:Nat
 base:Nat
 gb:Nat
 mb:Nat
 ca:Option Addr
 cc:Nat
 m:Nat
 vv:Value
 va:Option Addr
 vc:Nat
 la:Option Addr
 lc:Nat
 L:List AlX
 bs:List Nat
 V:List Value
 Q:List (Value × F)
 X:List Cx
 U:List Vr
 fs:List F
 mem:∀ W,Lko wE.heap.size B w1 W→PD W base ca cc va vc X U (L.map Prod.fst) bs∧NF W base gb mb la lc L bs V (fun _=>Q)
 snd:Q.map Prod.snd=fs
 facs:∀ y∈Q,zcs wE y.1 y.2
 below:Below wE.heap.size wE w1
 hm:m≤X.length
 h1:wE.heap.size≤cb
 h2:cb<B
 h3:w1.heap.size≤M
 n1:pb≠cb
 n2:yb≠cb
 n3:sb≠cb
 n4:xb≠cb
 f40:fs.length≤40
 small:∀ c∈X,c.cp.tests.length≤6
 X6:X.length≤6
 h4:B≤w1.heap.size
structure SX (K:SK) (W:World):Prop where
 lk:Lko K.wE.heap.size K.B K.w1 W
 pl:W.heap[K.pb]?=some (.cells #[.slice K.ca K.m K.cc,K.vv] 71 (0,0))
 yl:W.heap[K.yb]?=some (.cells #[.func (.yield K.l) #[] #[]] 136 (0,0))
 sd:W.heap[K.sb]?=some (.cells #[.int .i64 (-1),.pointer none] 77 (0,0))
 sr:W.heap[K.xb]?=some (.cells #[.func (.func 55) #[] #[.pointer (some ⟨K.pb,0,none⟩),.pointer (some ⟨K.yb,0,none⟩),.pointer (some ⟨K.sb,0,none⟩),.pointer (some ⟨K.xb,0,none⟩)]] 137 (0,0))
theorem SX.bel {K:SK}{W W':World} (h:SX K W) (hb:Below W.heap.size W W'):SX K W':=
 ⟨h.lk.trans (Lko.of_below hb),(hb.block _ (zab h.pl)).trans h.pl,(hb.block _ (zab h.yl)).trans h.yl,(hb.block _ (zab h.sd)).trans h.sd,(hb.block _ (zab h.sr)).trans h.sr⟩
theorem SX.kq {K:SK}{W W':World} (h:SX K W) (hk:Kq K.cb K.w1.heap.size K.M W W'):SX K W':=
 ⟨hk.lko h.lk (Nat.le_refl _) K.h1 K.h2,hk.box h.pl K.n1 (by decide),hk.box h.yl K.n2 (by decide),hk.box h.sd K.n3 (by decide),hk.box h.sr K.n4 (by decide)⟩
theorem SX.entry {K:SK}{W:World} (h:SX K W):Below K.wE.heap.size K.wE W:=Lko.below K.below K.below.size h.lk
def tkv (x:Tk3):Value:=.agg #[.pointer x.1,.pointer x.2.1,.pointer x.2.2]
structure TokX (w:World) (p0 p1 p2:Option Addr) (T:List F):Prop where
 tok:zdb w (.pointer p0) (.pointer p1) (.pointer p2) T
 z0:T.length≤0→p0=none
 z1:T.length≤1→p1=none
 z2:T.length≤2→p2=none
 le:T.length≤3
def TkX (w:World):={y:Tk3 × List F // TokX w y.1.1 y.1.2.1 y.1.2.2 y.2}
def tkT {w:World} (x:TkX w):List F:=x.1.2
def SPost (K:SK) (J Jx:List (TkX K.wE)→World→Prop) (pre:List (TkX K.wE)) (Ts:List (List F)) (W:World) (e:Ending) (W':World):Prop:=
 (e=.returned (.bool true)∧∃ ys:List (TkX K.wE),ys.map tkT=Ts∧J (pre ++ ys) W'∧Kq K.cb K.w1.heap.size K.M W W')∨(e=.returned (.bool false)∧∃ q,Jx q W')
theorem SK.cond (K:SK) {k:Nat}{c:Cx} (hc:K.X[k]?=some c):∃ g fa fc,K.ca=some ⟨g,0,none⟩∧∀ W,Lko K.wE.heap.size K.B K.w1 W →
  (W.cell? ⟨g,k * 4,none⟩=some (.bool c.cp.neg)∧W.cell? ⟨g,k * 4+1,none⟩=some (.int .i64 (c.cp.at_:Int))∧W.cell? ⟨g,k * 4+2,none⟩=some (.pointer (some ⟨c.node,0,none⟩))∧W.cell? ⟨g,k * 4+3,none⟩=some (.slice c.ta c.cp.tests.length c.tc))∧zdM W c.ta c.cp.tests∧W.cell? ⟨c.node,4,none⟩=some (.slice fa (cnOf K.fs c).facts.length fc)∧zhp W fa (cnOf K.fs c).facts ∧
  (∀ (j:Nat) (f:F),(cnOf K.fs c).facts[j]?=some f→∃ h,fa=some ⟨h,0,none⟩∧∃ fb fo,W.cell? ⟨h,j,none⟩=some (.pointer (some ⟨fb,fo,none⟩))∧zcs K.wE (.pointer (some ⟨fb,fo,none⟩)) f):=by
 obtain ⟨hP0,hN0⟩:=K.mem K.w1 (Lko.refl _ _ _)
 have hcm:=List.mem_of_getElem? hc
 obtain ⟨i,hA,hb⟩:=hP0.nodes c hcm
 rw [List.getElem?_map] at hA
 obtain ⟨x,hx,hxa⟩:=Option.map_eq_some_iff.1 hA
 have hml:i<K.L.length:=(List.getElem?_eq_some_iff.1 hx).1
 obtain ⟨v,hv⟩:∃ v,K.V[i]?=some v:=⟨K.V[i]'(by rw [hN0.lenv];exact hml),by simp⟩
 obtain ⟨_,_,⟨fa,fc,rfl⟩,_⟩:=hN0.node i x c.node v hx hb hv
 rw [hxa] at hv
 obtain ⟨g,hg,_,_,_⟩:=zam hP0.conds (zbe (cells:=zb2) (m:=4) (fun _=>rfl) K.X k c 0 _ hc rfl)
 have hsl:(sel c.cp.alpha K.Q).map Prod.snd=K.fs.filter (passes c.cp.alpha):=by rw [zic,K.snd]
 have hlen:(sel c.cp.alpha K.Q).length=(K.fs.filter (passes c.cp.alpha)).length:=by rw [← hsl,List.length_map]
 refine ⟨g,fa,fc,hg,fun W hW=>?_⟩
 obtain ⟨hP,hN⟩:=K.mem W hW
 have key:=fun j u (hj:(zb2 c)[j]?=some u)=>zam hP.conds (zbe (cells:=zb2) (m:=4) (fun _=>rfl) K.X k c j u hc hj)
 rw [hg] at key
 obtain ⟨_,e0,_,c0,_⟩:=key 0 _ rfl
 obtain ⟨_,e1,_,c1,_⟩:=key 1 _ rfl
 obtain ⟨_,e2,_,c2,_⟩:=key 2 _ rfl
 obtain ⟨_,e3,_,c3,_⟩:=key 3 _ rfl
 cases e0
 cases e1
 cases e2
 cases e3
 obtain ⟨n1,_,_,n4⟩:=hN.node i x c.node _ hx hb hv
 rw [hxa] at n4
 obtain ⟨⟨_,_,_,y4⟩,_⟩:=n1.facts
 have each:∀ (j:Nat) (f:F),(cnOf K.fs c).facts[j]?=some f→∃ h,fa=some ⟨h,0,none⟩∧∃ fb fo,W.cell? ⟨h,j,none⟩=some (.pointer (some ⟨fb,fo,none⟩))∧zcs K.wE (.pointer (some ⟨fb,fo,none⟩)) f:=by
  intro j f hj
  have hj':((sel c.cp.alpha K.Q).map Prod.snd)[j]?=some f:=by rw [hsl];exact hj
  rw [List.getElem?_map] at hj'
  obtain ⟨y,hy,rfl⟩:=Option.map_eq_some_iff.1 hj'
  obtain ⟨h,rfl,_,hh,_⟩:=zam n4 (show ((sel c.cp.alpha K.Q).map Prod.fst)[j]?=some y.1 by rw [List.getElem?_map,hy];rfl)
  have hF:=K.facs y (List.mem_filter.1 (List.mem_of_getElem? hy)).1
  obtain ⟨fb,fo,he,rest⟩:=hF
  exact ⟨h,rfl,fb,fo,by rw [← he];exact hh,fb,fo,rfl,rest⟩
 refine ⟨⟨by simpa using c0,by simpa using c1,by simpa using c2,by simpa using c3⟩,zdM.owns (hP.tests c hcm),?_,?_,each⟩
 ·show W.cell? ⟨c.node,4,none⟩=some (.slice fa (K.fs.filter (passes c.cp.alpha)).length fc)
  rw [← hlen]
  exact y4
 ·intro j f hj
  obtain ⟨h,e,fb,fo,h1,h2⟩:=each j f hj
  exact ⟨h,0,_,e,by simpa using h1,h2.below (Lko.below K.below K.below.size hW)⟩
theorem zlV (i:Nat) (x p0 p1 p2:Option Addr):setP i (.pointer x) (.pointer p0) (.pointer p1) (.pointer p2)=#[.pointer (if i=0 then x else p0),.pointer (if i=1 then x else p1),.pointer (if i=2 then x else p2)]:=by
 unfold setP
 congr 1
 simp only [List.cons.injEq,and_true]
 refine ⟨?_,?_,?_⟩ <;> split <;> rfl
theorem zdb.put {w:World}{p0 p1 p2 y:Option Addr}{T:List F}{f:F} (h:zdb w (.pointer p0) (.pointer p1) (.pointer p2) T) (hk:T.length<3) (hy:zcs w (.pointer y) f):zdb w (.pointer (if T.length=0 then y else p0)) (.pointer (if T.length=1 then y else p1)) (.pointer (if T.length=2 then y else p2)) (T ++ [f]):=by
 intro i g hi
 by_cases hil:i<T.length
 ·rw [List.getElem?_append_left hil] at hi
  obtain ⟨pv,h1,h2⟩:=h i g hi
  refine ⟨pv,?_,h2⟩
  rcases i with _ | _ | _ | i
  ·rw [if_neg (by omega)]
   simpa using h1
  ·rw [if_neg (show ¬ T.length=1 by omega)]
   simpa using h1
  ·omega
  ·omega
 ·have e:i=T.length:=by
   have:=(List.getElem?_eq_some_iff.1 hi).1
   simp at this
   omega
  subst e
  simp at hi
  subst hi
  refine ⟨.pointer y,?_,hy⟩
  rcases (show T.length=0∨T.length=1∨T.length=2 by omega) with h | h | h <;> rw [h] <;> simp
theorem TokX.put {w:World}{p0 p1 p2 y:Option Addr}{T:List F}{f:F} (h:TokX w p0 p1 p2 T) (hk:T.length<3) (hy:zcs w (.pointer y) f):TokX w (if T.length=0 then y else p0) (if T.length=1 then y else p1) (if T.length=2 then y else p2) (T ++ [f]):=by
 have hl:(T ++ [f]).length=T.length+1:=by simp
 refine ⟨h.tok.put hk hy,fun e=>?_,fun e=>?_,fun e=>?_,?_⟩
 ·omega
 ·rw [if_neg (by omega)]
  exact h.z1 (by omega)
 ·rw [if_neg (by omega)]
  exact h.z2 (by omega)
 ·omega
theorem zaT (p0 p1 p2 x:Option Addr) (T:List F) (f:F) (wE w:World) (hT:TokX wE p0 p1 p2 T) (hk:T.length<3) (hx:zcs wE (.pointer x) f) :
  Calls Tryz.prog 60 #[.agg #[.pointer p0,.pointer p1,.pointer p2],.int .i64 (T.length:Int),.pointer x] w fun e w'=>∃ q0 q1 q2,e=.returned (.agg #[.pointer q0,.pointer q1,.pointer q2])∧Hid (TokX wE q0 q1 q2 (T ++ [f]))∧Below w.heap.size w w':=by
 refine (zif p0 p1 p2 x T.length w hk).mono ?_
 rintro e w' ⟨rfl,hb⟩
 exact ⟨_,_,_,by rw [zlV],hT.put hk hx,hb⟩
theorem SPost.one {K:SK}{J Jx:List (TkX K.wE)→World→Prop}{pre:List (TkX K.wE)}{Ts:List (List F)}{W:World}{e:Ending}{W':World} (h:SPost K J Jx pre Ts W e W'):∃ b:Bool,e=.returned (.bool b)∧Hid (b=true→∃ ys:List (TkX K.wE),ys.map tkT=Ts∧J (pre ++ ys) W'∧Kq K.cb K.w1.heap.size K.M W W')∧Hid (b=false→∃ q,Jx q W'):=by
 rcases h with ⟨rfl,h⟩ | ⟨rfl,h⟩
 ·exact ⟨true,rfl,hidP (fun _=>h),hidP (fun hb=>(by cases hb))⟩
 ·exact ⟨false,rfl,hidP (fun hb=>(by cases hb)),hidP (fun _=>h)⟩
end Go.Proofs.YtmmdlgjmplddiaaGreat
namespace Go.Proofs.YtmmdlgjmplddiaaGreat
open Go.RowKit Go.Maps
attribute [local go_sem ↓] Go.wp_at_zero Go.wp_at_succ
theorem cell1P {w:World}{b:Nat}{ty:TypeId}{x0:Value} (h:w.heap[b]?=some (.cells #[x0] ty (0,0))):w.cell? ⟨b,0,none⟩=some x0:=by simp [World.cell?,h]
set_option maxRecDepth 100000 in
set_option maxHeartbeats 12800000 in
theorem zjg (Z:SK) (J Jx:List (TkX Z.wE)→World→Prop) (N:Nat) (hJ:∀ s W W',J s W→Below W.heap.size W W'→J s W')
  (hY:∀ (mm:Nat) (pre:List (TkX Z.wE)) (x:TkX Z.wE) (W1:World),J pre W1→pre.length<N→YieldAt Fence.wide mm Tryz.prog Z.l #[tkv x.1.1] W1 fun e W'=>(e=.returned (.bool true)∧J (pre ++ [x]) W'∧Kq Z.cb Z.w1.heap.size Z.M W1 W')∨(e=.returned (.bool false)∧Jx (pre ++ [x]) W'))
  (T:List F) (p0 p1 p2:Option Addr) (hTK:TokX Z.wE p0 p1 p2 T) (pre:List (TkX Z.wE)) (W:World) (hSX:SX Z W) (hJ0:J pre W) (hN:pre.length<N) :
   Calls Tryz.prog 55 #[.int .i64 (Z.m:Int),.agg #[.pointer p0,.pointer p1,.pointer p2],.pointer (some ⟨Z.pb,0,none⟩),.pointer (some ⟨Z.yb,0,none⟩),.pointer (some ⟨Z.sb,0,none⟩),.pointer (some ⟨Z.xb,0,none⟩)] W (SPost Z J Jx pre [T] W):=by
 go_enter Tryz.func55,Tryz.ntmps55
 go_upto_region 1 with fail
 refine zaj ?_
 intro w0 hW0 hq0
 obtain ⟨t0,t1,t2⟩:=cells3P hq0
 have SX0:=hidP (hSX.bel hW0)
 obtain ⟨g0,_⟩:=cells2P SX0.out.pl
 have y0:=cell1P SX0.out.yl
 have J0:=hJ _ _ _ hJ0 hW0
 have K0:=hidP (Kq.of_below (cb:=Z.cb) (L:=Z.w1.heap.size) (M:=Z.M) hW0)
 obtain ⟨fn,tm,asg,bdy,hy,hR⟩:=hY 5 pre ⟨((p0,p1,p2),T),hTK⟩ w0 J0 hN
 have HR:=hidP hR
 have hy':(Instr.yield Z.l #[.agg #[.pointer p0,.pointer p1,.pointer p2]]).run Tryz.prog w0=.ok (.round Z.l fn tm asg bdy) w0:=hy
 clear hW0 hq0 hy hR
 go_upto_region 2 with fail
 refine (wpIn_wide (n:=6)).1 ?_
 gi_wp2
 refine HR.out.mono ?_
 rintro e W' (⟨rfl,hJ',hk⟩ | ⟨rfl,hx⟩)
 ·gi_wp2
  go_wp2_with fail
  go_ret
  exact .inl ⟨rfl,[⟨((p0,p1,p2),T),hTK⟩],rfl,hJ',K0.out.trans hk⟩
 ·gi_wp2
  go_wp2_with fail
  go_ret
  exact .inr ⟨rfl,_,hx⟩
set_option maxRecDepth 100000 in
set_option maxHeartbeats 12800000 in
theorem zjn (Z:SK) (J Jx:List (TkX Z.wE)→World→Prop) (hJ:∀ s W W',J s W→Below W.heap.size W W'→J s W') (c:Cx) (k:Nat) (hc:Z.X[k]?=some c) (hkm:k<Z.m) (T:List F) (p0 p1 p2:Option Addr) (pre:List (TkX Z.wE)) (W:World) (hSX:SX Z W) (hTK:TokX Z.wE p0 p1 p2 T) (hfit:∀ f∈(cnOf Z.fs c).facts,∀ t∈c.cp.tests,t.fits T f) (hJ0:J pre W) (hneg:c.cp.neg=true) (n r:List (List F)) (hr1:(cnOf Z.fs c).facts.any (fun f=>c.cp.tests.all (zaI T f))=true→r=[]) (hr0:(cnOf Z.fs c).facts.any (fun f=>c.cp.tests.all (zaI T f))=false→r=n)
  (HIH:(cnOf Z.fs c).facts.any (fun f=>c.cp.tests.all (zaI T f))=false→∀ W',SX Z W'→J pre W'→Calls Tryz.prog 55 #[.int .i64 ((k:Int)+1),.agg #[.pointer p0,.pointer p1,.pointer p2],.pointer (some ⟨Z.pb,0,none⟩),.pointer (some ⟨Z.yb,0,none⟩),.pointer (some ⟨Z.sb,0,none⟩),.pointer (some ⟨Z.xb,0,none⟩)] W' (SPost Z J Jx pre n W')) :
   Calls Tryz.prog 55 #[.int .i64 (k:Int),.agg #[.pointer p0,.pointer p1,.pointer p2],.pointer (some ⟨Z.pb,0,none⟩),.pointer (some ⟨Z.yb,0,none⟩),.pointer (some ⟨Z.sb,0,none⟩),.pointer (some ⟨Z.xb,0,none⟩)] W (SPost Z J Jx pre r W):=by
 obtain ⟨g,fa,fc,hca,hmem⟩:=Z.cond hc
 have hts:=Z.small c (List.mem_of_getElem? hc)
 have hfl:(cnOf Z.fs c).facts.length≤1048576:=Nat.le_trans (List.length_filter_le _ _) (by have:=Z.f40;omega)
 have HM:=hidP hmem
 have HTK:=hidP hTK
 have HF:=hidP hfit
 have HI:=hidP HIH
 have HR1:=hidP hr1
 have HR0:=hidP hr0
 clear hmem hTK hfit HIH hr1 hr0
 have hkn:((k:Int)==(Z.m:Int))=false:=by simp;omega
 have z0:(0:Int)≤(k:Int):=by omega
 have z1:(k:Int)<(Z.m:Int):=by omega
 have hk40:(k:Int)<1000000:=by have:=Z.hm;have:=(List.getElem?_eq_some_iff.1 hc).1;have:=Z.X6;omega
 go_enter Tryz.func55,Tryz.ntmps55
 go_upto_region 1 with fail
 refine zaj ?_
 intro w0 hW0 hq0
 obtain ⟨t0,t1,t2⟩:=cells3P hq0
 have SX0:=hidP (hSX.bel hW0)
 obtain ⟨g0,_⟩:=cells2P SX0.out.pl
 rw [hca] at g0
 obtain ⟨⟨c0,c1,c2,c3⟩,_⟩:=HM.out w0 SX0.out.lk
 have J0:=hidP (hJ _ _ _ hJ0 hW0)
 have B0:=hidP hW0
 rw [hneg] at c0
 clear hW0 hq0
 go_upto_region 4 with fail
 refine zaj ?_
 intro w2 hW2 hq2
 obtain ⟨d0,d1,d2,d3⟩:=cells4P hq2
 have u0:=zaa hW2 t0
 have u1:=zaa hW2 t1
 have u2:=zaa hW2 t2
 have SX2:=hidP (SX0.out.bel hW2)
 have J2:=hidP (hJ _ _ _ J0.out hW2)
 have B2:=hidP (B0.out.trans (hW2.mono B0.out.size))
 obtain ⟨s0,s1⟩:=cells2P SX2.out.sd
 clear hW2 hq2 t0 t1 t2 c0 c1 c2 c3 g0 SX0 J0 B0
 go_wp2_with fail
 refine (zjw k _ _ _ _ _ _ _ w2).mono ?_
 rintro e w3 ⟨rfl,hb3⟩
 have f0:=zaa hb3 d0
 have f1:=zaa hb3 d1
 have f2:=zaa hb3 d2
 have f3:=zaa hb3 d3
 have v0:=zaa hb3 u0
 have v1:=zaa hb3 u1
 have v2:=zaa hb3 u2
 have SX3:=hidP (SX2.out.bel hb3)
 have J3:=hidP (hJ _ _ _ J2.out hb3)
 have B3:=hidP (B2.out.trans (hb3.mono B2.out.size))
 clear hb3 d0 d1 d2 d3 u0 u1 u2 s0 s1 SX2 J2 B2
 obtain ⟨_,m1,m2,m3,_⟩:=HM.out w3 SX3.out.lk
 have HB:=hidP (zge (.bool true) (.int .i64 (c.cp.at_:Int)) (.pointer p0) (.pointer p1) (.pointer p2) c.node c.cp.tests c.ta c.tc T (cnOf Z.fs c).facts fa fc w3 m2 m1 (HTK.out.tok.below SX3.out.entry) m3 (Nat.le_trans hts (by decide)) hfl HF.out)
 clear m1 m2 m3
 cases hm:(cnOf Z.fs c).facts.any (fun f=>c.cp.tests.all (zaI T f))
 ·rw [hm] at HB
  replace HI:=hidP (HI.out hm)
  replace HR0:=hidP (HR0.out hm)
  clear hm
  go_wp2_with fail
  refine HB.out.mono ?_
  rintro e w4 ⟨rfl,hb4⟩
  have v0':=zaa hb4 v0
  have v1':=zaa hb4 v1
  have v2':=zaa hb4 v2
  have SX4:=hidP (SX3.out.bel hb4)
  have J4:=hidP (hJ _ _ _ J3.out hb4)
  have B4:=hidP (B3.out.trans (hb4.mono B3.out.size))
  have x0:=cell1P SX4.out.sr
  clear hb4 f0 f1 f2 f3 v0 v1 v2 SX3 J3 B3 HB
  go_wp2_with fail
  refine (HI.out w4 SX4.out J4.out).mono ?_
  rintro e w5 (⟨rfl,ys,hl,hj,hk⟩ | ⟨rfl,q,hq⟩)
  ·go_wp2_with fail
   go_ret
   exact .inl ⟨rfl,ys,hl.trans HR0.out.symm,hj,(Kq.of_below B4.out).trans hk⟩
  ·go_wp2_with fail
   go_ret
   exact .inr ⟨rfl,q,hq⟩
 ·rw [hm] at HB
  replace HR1:=hidP (HR1.out hm)
  clear hm
  go_wp2_with fail
  refine HB.out.mono ?_
  rintro e w4 ⟨rfl,hb4⟩
  have J4:=hidP (hJ _ _ _ J3.out hb4)
  have B4:=hidP (B3.out.trans (hb4.mono B3.out.size))
  clear hb4
  go_wp2_with fail
  go_ret
  exact .inl ⟨rfl,[],HR1.out.symm,by simpa using J4.out,Kq.of_below B4.out⟩
end Go.Proofs.YtmmdlgjmplddiaaGreat
