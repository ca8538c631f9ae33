/-
  OUR OWN TEXT. Heaps, as mathematics: numbers of places and what lies there; what one step up or down keeps.
-/
import Derived.Test.YtmmdlgjmplddiaaGreatProg
namespace Go.Proofs.YtmmdlgjmplddiaaGreat
structure Strict {α:Type} (lt:α→α→Bool):Prop where
 asym:∀ a b,lt a b=true→lt b a=false
 trans:∀ a b c,lt a b=true→lt b c=true→lt a c=true
 same:∀ a b,lt a b=false→lt b a=false→a=b
theorem Strict.le_trans {α:Type}{lt:α→α→Bool} (h:Strict lt) {a b c:α} (h1:lt b a=false) (h2:lt c b=false):lt c a=false:=by
 cases hc:lt c a with
 | false=>rfl
 | true=>
  cases hb:lt a b with
  | true=>
   have:=h.trans c a b hc hb
   rw [h2] at this
   exact this.symm
  | false=>
   have e:=h.same a b hb h1
   subst e
   rw [h2] at hc
   exact hc.symm
theorem Strict.le_of_lt {α:Type}{lt:α→α→Bool} (h:Strict lt) {a b:α} (h1:lt a b=true):lt b a=false:=h.asym a b h1
theorem Strict.irr {α:Type}{lt:α→α→Bool} (h:Strict lt) (a:α):lt a a=false:=by
 cases ha:lt a a with
 | false=>rfl
 | true=>exact ha.symm.trans (h.asym a a ha)
def zdj {α:Type} (f:Nat→α) (i j:Nat):Nat→α:=fun k=>if k=i then f j else if k=j then f i else f k
def par (k:Nat):Nat:=(k - 1) / 2
def zcE {α:Type} (lt:α→α→Bool) (f:Nat→α) (n:Nat):Prop:=∀ k,k<n→0<k→lt (f k) (f (par k))=false
structure UpF {α:Type} (lt:α→α→Bool) (f:Nat→α) (n j:Nat):Prop where
 rest:∀ k,k<n→0<k→k≠j→lt (f k) (f (par k))=false
 kids:∀ k,k<n→0<k→par k=j→0<j→lt (f k) (f (par j))=false
structure zeb {α:Type} (lt:α→α→Bool) (f:Nat→α) (n i:Nat):Prop where
 rest:∀ k,k<n→0<k→par k≠i→lt (f k) (f (par k))=false
 kids:∀ k,k<n→0<k→par k=i→0<i→lt (f k) (f (par i))=false
theorem zdg {k:Nat} (h:0<k):par k<k:=by unfold par;omega
theorem zcE.root {α:Type}{lt:α→α→Bool} (hs:Strict lt) {f:Nat→α}{n:Nat} (h:zcE lt f n):∀ k,k<n→lt (f k) (f 0)=false:=by
 intro k
 induction k using Nat.strongRecOn with
 | ind k ih=>
  intro hk
  rcases Nat.eq_zero_or_pos k with rfl | h0
  ·exact hs.irr _
  ·have h1:=zdg h0
   exact hs.le_trans (ih (par k) h1 (by omega)) (h k hk h0)
theorem zcE.snoc {α:Type}{lt:α→α→Bool}{f:Nat→α}{n:Nat} (h:zcE lt f n):UpF lt f (n+1) n:=
 ⟨fun k hk h0 hne=>h k (by omega) h0,fun k hk h0 hp _=>by have:=zdg h0;omega⟩
theorem UpF.done0 {α:Type}{lt:α→α→Bool}{f:Nat→α}{n:Nat} (h:UpF lt f n 0):zcE lt f n:=fun k hk h0=>h.rest k hk h0 (by omega)
theorem UpF.done {α:Type}{lt:α→α→Bool}{f:Nat→α}{n j:Nat} (h:UpF lt f n j) (hl:lt (f j) (f (par j))=false):zcE lt f n:=fun k hk h0=>by
 by_cases e:k=j
 ·subst e
  exact hl
 ·exact h.rest k hk h0 e
theorem UpF.step {α:Type}{lt:α→α→Bool} (hs:Strict lt) {f:Nat→α}{n j:Nat} (h:UpF lt f n j) (hj:j<n) (h0:0<j) (hl:lt (f j) (f (par j))=true):UpF lt (zdj f (par j) j) n (par j):=by
 have hpj:=zdg h0
 have hle:=hs.le_of_lt hl
 refine ⟨fun k hk hk0 hne=>?_,fun k hk hk0 hp hp0=>?_⟩
 ·unfold zdj
  by_cases e:k=j
  ·subst e
   rw [if_neg (by omega),if_pos rfl,if_pos rfl]
   exact hle
  ·rw [if_neg hne,if_neg e]
   by_cases e1:par k=par j
   ·rw [if_pos e1]
    have h1:=h.rest k hk hk0 e
    rw [e1] at h1
    exact hs.le_trans hle h1
   ·rw [if_neg e1]
    by_cases e2:par k=j
    ·rw [if_pos e2]
     exact h.kids k hk hk0 e2 h0
    ·rw [if_neg e2]
     exact h.rest k hk hk0 e
 ·have hpp:=zdg hp0
  unfold zdj
  rw [if_neg (show ¬ par (par j)=par j by omega),if_neg (show ¬ par (par j)=j by omega)]
  have hup:=h.rest (par j) (by omega) hp0 (by omega)
  by_cases e:k=j
  ·subst e
   rw [if_neg (by omega),if_pos rfl]
   exact hup
  ·rw [if_neg (by have:=zdg hk0;omega),if_neg e]
   have h1:=h.rest k hk hk0 e
   rw [hp] at h1
   exact hs.le_trans hup h1
theorem zeb.start {α:Type}{lt:α→α→Bool}{f:Nat→α}{n:Nat} (h:zcE lt f (n+1)):zeb lt (zdj f 0 n) n 0:=by
 refine ⟨fun k hk h0 hp=>?_,fun k hk h0 hp h00=>absurd h00 (by omega)⟩
 have:=zdg h0
 unfold zdj
 rw [if_neg (by omega),if_neg (by omega),if_neg hp,if_neg (by omega)]
 exact h k (by omega) h0
theorem zeb.done {α:Type}{lt:α→α→Bool}{f:Nat→α}{n i:Nat} (h:zeb lt f n i) (hl:∀ k,k<n→0<k→par k=i→lt (f k) (f i)=false):zcE lt f n:=fun k hk h0=>by
 by_cases e:par k=i
 ·rw [e]
  exact hl k hk h0 e
 ·exact h.rest k hk h0 e
theorem zeb.step {α:Type}{lt:α→α→Bool} (hs:Strict lt) {f:Nat→α}{n i j:Nat} (h:zeb lt f n i) (hj:j<n) (h0:0<j) (hp:par j=i) (hm:∀ k,k<n→0<k→par k=i→lt (f k) (f j)=false) (hl:lt (f j) (f i)=true):zeb lt (zdj f i j) n j:=by
 have hij:i<j:=by rw [← hp];exact zdg h0
 have hle:=hs.le_of_lt hl
 refine ⟨fun k hk hk0 hne=>?_,fun k hk hk0 hpk hj0=>?_⟩
 ·have hpk:=zdg hk0
  unfold zdj
  by_cases e:k=i
  ·subst e
   rw [if_pos rfl,if_neg (by omega),if_neg (by omega)]
   exact h.kids j hj h0 hp (by omega)
  ·rw [if_neg e]
   by_cases e1:k=j
   ·subst e1
    rw [if_pos rfl,hp,if_pos rfl]
    exact hle
   ·rw [if_neg e1]
    by_cases e2:par k=i
    ·rw [if_pos e2]
     exact hm k hk hk0 e2
    ·rw [if_neg e2,if_neg hne]
     exact h.rest k hk hk0 e2
 ·have hpk':=zdg hk0
  unfold zdj
  rw [if_neg (by omega),if_neg (by omega),hp,if_pos rfl]
  have h1:=h.rest k hk hk0 (by omega)
  rw [hpk] at h1
  exact h1
def zf7 (i j k:Nat):Nat:=if k=i then j else if k=j then i else k
theorem znh {α:Type} (f:Nat→α) (i j k:Nat):zdj f i j k=f (zf7 i j k):=by
 unfold zdj zf7
 split
 ·rfl
 ·split <;> rfl
theorem znb {i j a b:Nat} (h:a≠b):zf7 i j a≠zf7 i j b:=by
 unfold zf7
 repeat' split
 all_goals omega
theorem znl {α:Type} (f:Nat→α) {n i j:Nat} (hi:i<n) (hj:j<n):((List.range n).map (zdj f i j)).Perm ((List.range n).map f):=by
 have e:(List.range n).map (zdj f i j)=((List.range n).map (zf7 i j)).map f:=by
  rw [List.map_map]
  exact List.map_congr_left (fun k _=>znh f i j k)
 rw [e]
 refine List.Perm.map f ((List.perm_ext_iff_of_nodup ?_ List.nodup_range).2 (fun k=>?_))
 ·rw [List.Nodup,List.pairwise_map]
  exact List.Pairwise.imp (fun h=>znb h) List.nodup_range
 ·rw [List.mem_map,List.mem_range]
  constructor
  ·rintro ⟨x,hx,rfl⟩
   rw [List.mem_range] at hx
   unfold zf7
   repeat' split
   all_goals omega
  ·intro hk
   refine ⟨zf7 i j k,?_,?_⟩
   ·rw [List.mem_range]
    unfold zf7
    repeat' split
    all_goals omega
   ·unfold zf7
    repeat' split
    all_goals omega
def upto {α:Type} (f:Nat→α) (n:Nat):List α:=(List.range n).map f
structure OutF {α:Type} (lt:α→α→Bool) (all out:List α) (f:Nat→α) (n:Nat):Prop where
 perm:(out ++ upto f n).Perm all
 sort:out.Pairwise (fun a b=>lt b a=false)
 rest:∀ a∈out,∀ k,k<n→lt (f k) a=false
theorem OutF.end {α:Type}{lt:α→α→Bool}{all out:List α}{f:Nat→α} (h:OutF lt all out f 0):out.Perm all∧out.Pairwise (fun a b=>lt b a=false):=by
 refine ⟨?_,h.sort⟩
 have:=h.perm
 simpa [upto] using this
theorem OutF.next {α:Type}{lt:α→α→Bool}{all out:List α}{f g:Nat→α}{n:Nat} (h:OutF lt all out f (n+1)) (hmin:∀ k,k<n+1→lt (f k) (f 0)=false) (hg:(upto g n ++ [f 0]).Perm (upto f (n+1))):OutF lt all (out ++ [f 0]) g n:=by
 have hmem:∀ k,k<n→∃ m,m<n+1∧g k=f m:=fun k hk=>by
  have h1:g k∈upto g n ++ [f 0]:=List.mem_append.2 (.inl (List.mem_map.2 ⟨k,List.mem_range.2 hk,rfl⟩))
  obtain ⟨m,hm,e⟩:=List.mem_map.1 (hg.mem_iff.1 h1)
  exact ⟨m,List.mem_range.1 hm,e.symm⟩
 refine ⟨?_,?_,?_⟩
 ·refine List.Perm.trans ?_ h.perm
  rw [List.append_assoc]
  refine List.Perm.append_left out ?_
  exact (List.perm_append_comm).trans hg
 ·rw [List.pairwise_append]
  refine ⟨h.sort,by simp,fun a ha b hb=>?_⟩
  simp at hb
  subst hb
  exact h.rest a ha 0 (by omega)
 ·intro a ha k hk
  obtain ⟨m,hm,e⟩:=hmem k hk
  rw [e]
  rcases List.mem_append.1 ha with ha | ha
  ·exact h.rest a ha m hm
  ·simp at ha
   subst ha
   exact hmin m hm
theorem ziF {α:Type}{lt:α→α→Bool} (hs:Strict lt) {a b all:List α} (ha:a.Perm all) (hb:b.Perm all) (sa:a.Pairwise (fun x y=>lt y x=false)) (sb:b.Pairwise (fun x y=>lt y x=false)):a=b:=
 List.Perm.eq_of_pairwise (le:=fun x y=>lt y x=false) (fun x y _ _ h1 h2=>hs.same x y h2 h1) sa sb (ha.trans hb.symm)
end Go.Proofs.YtmmdlgjmplddiaaGreat
