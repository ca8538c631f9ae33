import Derived.Test.YtikojfajahnhgaaGreatKai
import Derived.Test.YtikojfajahnhgaaGreatKam
set_option linter.all false
set_option maxHeartbeats 3200000
namespace Go.Proofs.YtikojfajahnhgaaGreat
attribute [local simp] At I6 Pn mzI
attribute [local go_sem] At I6 Pn
open Go.RowKit Go.Proofs.Tryz
variable{P:Prop}
section
open Go.Deep
def Sr:laidOutB prog=true:=qg
def Z6:ownKnob prog.godebug=none:=qg
def Sh:prog.cellsOf 3=1:=qg
def uf:prog.cellsOf 2=1:=qg
def UN:prog.cellsOf 9=1:=qg
def DO(v:V):Prop:=(Lit.int .i64 v.u).wf=true/\(Lit.int .i64 v.num).wf=true/\v.J.size<=maxLen
def zkD{α:Type}{f len i}{x:α}(h:((List.range len).map f)[i]?=some x):i<len/\f i=x:=by
 have a:i<len:=by simpa using(ye.1 h).1
 simp[a]at h;exact⟨a,h⟩
def zm{w:World}{b o a n x y}(O:w.cell? ((⟨b,o,a⟩:Addr).add 0)=some x)(_h:w.cell? ((⟨b,o,a⟩:Addr).add n)=some y):a=none:=by
 have c:=World.cell?_spot O;simpa[Addr.add] using c
section
variable {H : Type} {enc : TypeId × Value -> H} {w : World} {base : Nat} {spare : Nat -> Bool} {held : Bool}
end
end
def fW:(prog.info? 187).map (λi=>(i.zero,i.size,i.bytes))=some (some (.agg #[I6 0,I6 0,.string ByteArray.empty]),3,32):=qg
def mn{P}(t e z)(size bytes:Nat)(f:P.underlying t=some (.slice e))(hinfo:(P.info? e).map (λi=>(i.zero,i.size,i.bytes))=some (some (.agg z),size,bytes))(n)(k:bytes*n<=281474976710656)(d:n<=9223372036854775807)(w) :
  (Instr.makeSlice t (I6 (n:Int)) (I6 (n:Int))).run P w=.ok (.slice (some ⟨w.heap.size,0,none⟩) n n) (w.alloc (.cells (madeCells z (n*size)) e)):=by
 obtain⟨i,c,g,O,j⟩:=info_parts hinfo;have a:(i.bytes:Int)*(n:Int)<=281474976710656:=by
  rw[j];have h:((bytes*n:Nat):Int)<=281474976710656:=qd;rwa [Int.natCast_mul]at h
 have b:=run_make (P:=P) w t e i _ f c g .i64 .i64 n n qd (Y8 _) a qd;simp only[YG,O,Value.cells]at b;exact b
section
attribute [local go_sem ↓] wp_at_zero wp_at_succ

end
structure Tt where
 Y:Int
 op:Int
 other:Int
 val:V
def Tt.R(_:World)(r:List Value)(x:Tt):Prop:=r=[.int .i64 x.Y,.int .i64 x.op,.int .i64 x.other,.int .i64 x.val.u,.int .i64 x.val.num,.string x.val.J]
abbrev E9(q:Option Nat)(w:World)(a:Option Addr)(xs:List Tt):Prop:=Cr Tt.R q 320 6 w a xs
def E9.d{q w w' a xs}(h:E9 q w a xs)(b:Bw w w'):E9 q w' a xs:=Cr.d h (λ_ _ _ h=>h) b
def E9.get{q w a xs i x}(h:E9 q w a xs)(hi:xs[i]?=some x):∃b o,a=some ⟨b,o,none⟩/\Qb q w 320 b/\At w b (o+i*6) (I6 x.Y)/\At w b (o+i*6+1) (I6 x.op)/\At w b (o+i*6+2) (I6 x.other)/\At w b (o+i*6+3) (I6 x.val.u)/\At w b (o+i*6+4) (I6 x.val.num)/\At w b (o+i*6+5) (.string x.val.J):=by
 exact nh
structure Al where
 z:ByteArray
 aa:Int
 x:List Tt
def Al.R(q:Option Nat)(w:World)(r:List Value)(x:Al):Prop:=∃a_tests c_tests,r=[.string x.z,.int .i64 x.aa,.slice a_tests x.x.length c_tests]/\E9 q w a_tests x.x
abbrev Po(q:Option Nat)(w:World)(a:Option Addr)(xs:List Al):Prop:=Cr (Al.R q) q 245 3 w a xs
def Po.d{q w w' a xs}(h:Po q w a xs)(b:Bw w w'):Po q w' a xs:=Cr.d h (λ_ _ _⟨a_tests,c_tests,e,O⟩=>⟨a_tests,c_tests,e,O.d b⟩) b
def Po.get{q w a xs i x}(h:Po q w a xs)(d:xs[i]?=some x):∃b o a_tests c_tests,a=some ⟨b,o,none⟩/\Qb q w 245 b/\At w b (o+i*3) (.string x.z)/\At w b (o+i*3+1) (I6 x.aa)/\At w b (o+i*3+2) (.slice a_tests x.x.length c_tests)/\E9 q w a_tests x.x:=by
 obtain⟨b,o,r,g,f,j,c,e⟩:=h i x d;obtain⟨a_tests,c_tests,rfl,O⟩:=e;exact⟨b,o,a_tests,c_tests,g,f,c 0 _ rfl,c 1 _ rfl,c 2 _ rfl,O⟩
def My(v o:V):Bool:=v.u==o.u&&(v.num==o.num&&decide (v.J.toList=o.J.toList))
def Ij(v o:V):Bool:=v.u==0&&o.u==0
def AZ(op:Int)(v o:V):Bool:=
 if op==1 then My v o
 else if op==2 then !My v o
 else if op==3 then Ij v o&&decide (v.num<o.num)
 else if op==4 then Ij v o&&decide (o.num<v.num)
 else if op==5 then Ij v o&&decide (v.num<=o.num)
 else if op==6 then Ij v o&&decide (o.num<=v.num)
 else false
def oD(h:P:=by
 cases k1:(v.u==0)<;>cases k2:(o.u==0)
 all_goals
  go_enter func173,ntmps173;go_wp2
 all_goals go_ret
 all_goals exact⟨AL (by simp[AZ,My, *]),AX⟩
 ):=h
def TQ(h:P:=by
 cases k1:(v.u==0)<;>cases k2:(o.u==0)
 all_goals
  go_enter func173,ntmps173;go_wp2
 all_goals go_ret
 all_goals exact⟨AL (by simp[AZ,Ij, *]),AX⟩
 ):=h
def VQ(v o a w) :
  Ca 173 #[.agg #[I6 v.u,I6 v.num,.string v.J],I6 a,.agg #[I6 o.u,I6 o.num,.string o.J]] w λe w'=>
   e=.returned (.bool (AZ a v o))/\Bw w w':=by
 by_cases g:a=1
 .subst g;exact oD
 by_cases b:a=2
 .subst b;exact oD
 by_cases f:a=3
 .subst f;exact TQ
 by_cases d:a=4
 .subst d;exact TQ
 by_cases i:a=5
 .subst i;exact TQ
 by_cases c:a=6
 .subst c;exact TQ
 cases k1:(v.u==0)<;>cases k2:(o.u==0)
 all_goals
  go_enter func173,ntmps173;go_wp2
 all_goals go_ret
 all_goals exact⟨AL (by simp[AZ, *]),AX⟩
def tk{P:Program}{l:List Oper}{Q:Exit->Act->World->Prop}{md:Region.Mode}{S:World->Prop}(i:Nat){oi:Oper}{v:Value}{af:Nat}{O:Array Bool}{a:Act}{w:World}(hS:S w)
  (h:wpAnyH P md l.toArray (NoPanic Q) S af (O.setIfInBounds i true) (a.put oi.dst v) w) (hi:l[i]?=some oi:=by rfl)
  (hs:Region.noSelect l.toArray=true:=by kernel_rfl) (hf:Region.free md l.toArray O i=true:=by kernel_rfl) (hr:(Region.ready md l.toArray O).contains i=true:=by kernel_rfl)
  (hw:Region.wanted oi (yielded l.toArray a.tmps)=true:=by rfl) (hy:∀w,S w->(execOp a.eval oi).run P w=.ok (.value v) w:=by intro w ah;(try dsimp only at ah);go_simp;try with_reducible rfl):wpAnyH P md l.toArray (NoPanic Q) S (af+1) O a w:=
 wpAnyH_take (ym.c hi) hs hf hr (λ_ _ _ h=>h) (.inl ⟨hw,hy⟩) hS h
def tn{P:Program}{l:List Oper}{Q:Exit->Act->World->Prop}{md:Region.Mode}{S:World->Prop}(i:Nat){oi:Oper}{af:Nat}{O:Array Bool}{a:Act}{w:World}(hS:S w)
  (h:wpAnyH P md l.toArray (NoPanic Q) S af (O.setIfInBounds i true) (a.put oi.dst undef) w) (hi:l[i]?=some oi:=by rfl)
  (hs:Region.noSelect l.toArray=true:=by kernel_rfl) (hf:Region.free md l.toArray O i=true:=by kernel_rfl) (hr:(Region.ready md l.toArray O).contains i=true:=by kernel_rfl)
  (hw:Region.wanted oi (yielded l.toArray a.tmps)=false:=by rfl):wpAnyH P md l.toArray (NoPanic Q) S (af+1) O a w:=
 wpAnyH_take (ym.c hi) hs hf hr (λ_ _ _ h=>h) (.inr ⟨hw,rfl⟩) hS h
def r1{P:Program}{l:List Oper}{Q:Exit->Act->World->Prop}{md:Region.Mode}{S:World->Prop}(i:Nat){o:Oper}{af:Nat}{O:Array Bool}{a:Act}{w:World}
  (h:∀K':Act->World->Prop,Shut (∀a w,S w->(S w->wpAnyH P md l.toArray Q S af (O.setIfInBounds i true) a w)->K' a w)->if Region.wanted o (yielded l.toArray a.tmps)=true then Oper.wp P o a w K' Q else K' (a.put o.dst undef) w)
  (hi:l[i]?=some o:=by rfl) (hr:Region.ready md l.toArray O=[i]:=by kernel_rfl):wpAnyH P md l.toArray Q S (af+1) O a w:=
 wpAnyH_ready hr qe (Yj (ym.c hi) h Yx)
def r2{P:Program}{l:List Oper}{Q:Exit->Act->World->Prop}{md:Region.Mode}{S:World->Prop}(i j:Nat){o o':Oper}{af:Nat}{O:Array Bool}{a:Act}{w:World}
  (h:∀K':Act->World->Prop,Shut (∀a w,S w->(S w->wpAnyH P md l.toArray Q S af (O.setIfInBounds i true) a w)->K' a w)->if Region.wanted o (yielded l.toArray a.tmps)=true then Oper.wp P o a w K' Q else K' (a.put o.dst undef) w)
  (h':∀K':Act->World->Prop,Shut (∀a w,S w->(S w->wpAnyH P md l.toArray Q S af (O.setIfInBounds j true) a w)->K' a w)->if Region.wanted o' (yielded l.toArray a.tmps)=true then Oper.wp P o' a w K' Q else K' (a.put o'.dst undef) w)
  (hi:l[i]?=some o:=by rfl) (hj:l[j]?=some o':=by rfl) (hr:Region.ready md l.toArray O=[i,j]:=by kernel_rfl):wpAnyH P md l.toArray Q S (af+1) O a w:=
 wpAnyH_ready hr qe (Yj (ym.c hi) h (Yj (ym.c hj) h' Yx))
def pA(l:List Value)(d)(t:Nat)(v):({ tmps:=l.toArray,defers:=d }:Act).put (some t) v={ tmps:=(l.set t v).toArray,defers:=d }:=by simp[Act.put]
def pN(a:Act)(v):a.put none v=a:=rfl
def pZ{α:Type}(x v:α)(l):(x::l).set 0 v=v::l:=rfl
def pS{α:Type}(x v:α)(l n):(x::l).set (n+1) v=x::l.set n v:=rfl
def Rg(_i _j:Nat):Prop:=True
def Rg.nx{i j}(_t:Rg i j):Rg (i+1) j:=trivial
def Wr(Q:Prop):Prop:=Q
def Wr.o{Q}(h:Wr Q):Q:=h
def DD{P:Program}{l:List Oper}{Q:Exit->Act->World->Prop}{md:Region.Mode}{S:World->Prop}{i j:Nat}(_t:Rg i j){oi:Oper}{v:Value}{af:Nat}{O:Array Bool}{a:Act}{w:World}(hS:S w)
  (h:wpAnyH P md l.toArray (NoPanic Q) S af (O.setIfInBounds i true) (a.put oi.dst v) w) (_hij:decide (i<j)=true:=by rfl) (hi:l[i]?=some oi:=by rfl)
  (hs:Region.noSelect l.toArray=true:=by kernel_rfl) (hf:Region.free md l.toArray O i=true:=by kernel_rfl) (hr:(Region.ready md l.toArray O).contains i=true:=by kernel_rfl)
  (hw:Region.wanted oi (yielded l.toArray a.tmps)=true:=by rfl) (hy:∀w,S w->(execOp a.eval oi).run P w=.ok (.value v) w:=by intro w ah;(try dsimp only at ah);go_simp;try with_reducible rfl):wpAnyH P md l.toArray (NoPanic Q) S (af+1) O a w:=
 tk i hS h hi hs hf hr hw hy
def DC{P:Program}{l:List Oper}{Q:Exit->Act->World->Prop}{md:Region.Mode}{S:World->Prop}{i j:Nat}(_t:Rg i j){oi:Oper}{af:Nat}{O:Array Bool}{a:Act}{w:World}(hS:S w)
  (h:wpAnyH P md l.toArray (NoPanic Q) S af (O.setIfInBounds i true) (a.put oi.dst undef) w) (_hij:decide (i<j)=true:=by rfl) (hi:l[i]?=some oi:=by rfl)
  (hs:Region.noSelect l.toArray=true:=by kernel_rfl) (hf:Region.free md l.toArray O i=true:=by kernel_rfl) (hr:(Region.ready md l.toArray O).contains i=true:=by kernel_rfl)
  (hw:Region.wanted oi (yielded l.toArray a.tmps)=false:=by rfl):wpAnyH P md l.toArray (NoPanic Q) S (af+1) O a w:=
 tn i hS h hi hs hf hr hw
def sr(i j:Nat){P Q:Prop}(k:Q)(h:Rg i j->Wr Q->P:=by intro O hQ;(first|((first|refine DD O hHeld ?_|refine DC O hHeld ?_);(try simp only[pA,pZ,pS,pN]);replace O:=O.nx;(try simp only[Nat.reduceAdd]at O);(first|((first|refine DD O hHeld ?_|refine DC O hHeld ?_);(try simp only[pA,pZ,pS,pN]);replace O:=O.nx;(try simp only[Nat.reduceAdd]at O);(first|((first|refine DD O hHeld ?_|refine DC O hHeld ?_);(try simp only[pA,pZ,pS,pN]);replace O:=O.nx;(try simp only[Nat.reduceAdd]at O);(first|((first|refine DD O hHeld ?_|refine DC O hHeld ?_);(try simp only[pA,pZ,pS,pN]);replace O:=O.nx;(try simp only[Nat.reduceAdd]at O);(first|((first|refine DD O hHeld ?_|refine DC O hHeld ?_);(try simp only[pA,pZ,pS,pN]);replace O:=O.nx;(try simp only[Nat.reduceAdd]at O);(first|((first|refine DD O hHeld ?_|refine DC O hHeld ?_);(try simp only[pA,pZ,pS,pN]);replace O:=O.nx;(try simp only[Nat.reduceAdd]at O);(first|((first|refine DD O hHeld ?_|refine DC O hHeld ?_);(try simp only[pA,pZ,pS,pN]);replace O:=O.nx;(try simp only[Nat.reduceAdd]at O);(first|((first|refine DD O hHeld ?_|refine DC O hHeld ?_);(try simp only[pA,pZ,pS,pN]);replace O:=O.nx;(try simp only[Nat.reduceAdd]at O);(first|((first|refine DD O hHeld ?_|refine DC O hHeld ?_);(try simp only[pA,pZ,pS,pN]);replace O:=O.nx;(try simp only[Nat.reduceAdd]at O);(first|((first|refine DD O hHeld ?_|refine DC O hHeld ?_);(try simp only[pA,pZ,pS,pN]);replace O:=O.nx;(try simp only[Nat.reduceAdd]at O);(first|((first|refine DD O hHeld ?_|refine DC O hHeld ?_);(try simp only[pA,pZ,pS,pN]);replace O:=O.nx;(try simp only[Nat.reduceAdd]at O);(first|((first|refine DD O hHeld ?_|refine DC O hHeld ?_);(try simp only[pA,pZ,pS,pN]);replace O:=O.nx;(try simp only[Nat.reduceAdd]at O);(first|((first|refine DD O hHeld ?_|refine DC O hHeld ?_);(try simp only[pA,pZ,pS,pN]);replace O:=O.nx;(try simp only[Nat.reduceAdd]at O);(first|((first|refine DD O hHeld ?_|refine DC O hHeld ?_);(try simp only[pA,pZ,pS,pN]);replace O:=O.nx;(try simp only[Nat.reduceAdd]at O);(first|((first|refine DD O hHeld ?_|refine DC O hHeld ?_);(try simp only[pA,pZ,pS,pN]);replace O:=O.nx;(try simp only[Nat.reduceAdd]at O);(first|((first|refine DD O hHeld ?_|refine DC O hHeld ?_);(try simp only[pA,pZ,pS,pN]);replace O:=O.nx;(try simp only[Nat.reduceAdd]at O);(first|((first|refine DD O hHeld ?_|refine DC O hHeld ?_);(try simp only[pA,pZ,pS,pN]);replace O:=O.nx;(try simp only[Nat.reduceAdd]at O);(first|((first|refine DD O hHeld ?_|refine DC O hHeld ?_);(try simp only[pA,pZ,pS,pN]);replace O:=O.nx;(try simp only[Nat.reduceAdd]at O);(first|((first|refine DD O hHeld ?_|refine DC O hHeld ?_);(try simp only[pA,pZ,pS,pN]);replace O:=O.nx;(try simp only[Nat.reduceAdd]at O);(first|((first|refine DD O hHeld ?_|refine DC O hHeld ?_);(try simp only[pA,pZ,pS,pN]);replace O:=O.nx;(try simp only[Nat.reduceAdd]at O);(first|((first|refine DD O hHeld ?_|refine DC O hHeld ?_);(try simp only[pA,pZ,pS,pN]);replace O:=O.nx;(try simp only[Nat.reduceAdd]at O);(first|((first|refine DD O hHeld ?_|refine DC O hHeld ?_);(try simp only[pA,pZ,pS,pN]);replace O:=O.nx;(try simp only[Nat.reduceAdd]at O);(first|((first|refine DD O hHeld ?_|refine DC O hHeld ?_);(try simp only[pA,pZ,pS,pN]);replace O:=O.nx;(try simp only[Nat.reduceAdd]at O);(first|((first|refine DD O hHeld ?_|refine DC O hHeld ?_);(try simp only[pA,pZ,pS,pN]);replace O:=O.nx;(try simp only[Nat.reduceAdd]at O);(first|((first|refine DD O hHeld ?_|refine DC O hHeld ?_);(try simp only[pA,pZ,pS,pN]);replace O:=O.nx;(try simp only[Nat.reduceAdd]at O);(first|((first|refine DD O hHeld ?_|refine DC O hHeld ?_);(try simp only[pA,pZ,pS,pN]);replace O:=O.nx;(try simp only[Nat.reduceAdd]at O);(first|((first|refine DD O hHeld ?_|refine DC O hHeld ?_);(try simp only[pA,pZ,pS,pN]);replace O:=O.nx;(try simp only[Nat.reduceAdd]at O);(first|((first|refine DD O hHeld ?_|refine DC O hHeld ?_);(try simp only[pA,pZ,pS,pN]);replace O:=O.nx;(try simp only[Nat.reduceAdd]at O);(first|((first|refine DD O hHeld ?_|refine DC O hHeld ?_);(try simp only[pA,pZ,pS,pN]);replace O:=O.nx;(try simp only[Nat.reduceAdd]at O);(first|((first|refine DD O hHeld ?_|refine DC O hHeld ?_);(try simp only[pA,pZ,pS,pN]);replace O:=O.nx;(try simp only[Nat.reduceAdd]at O);(first|((first|refine DD O hHeld ?_|refine DC O hHeld ?_);(try simp only[pA,pZ,pS,pN]);replace O:=O.nx;(try simp only[Nat.reduceAdd]at O);(first|((first|refine DD O hHeld ?_|refine DC O hHeld ?_);(try simp only[pA,pZ,pS,pN]);replace O:=O.nx;(try simp only[Nat.reduceAdd]at O);(first|((first|refine DD O hHeld ?_|refine DC O hHeld ?_);(try simp only[pA,pZ,pS,pN]);replace O:=O.nx;(try simp only[Nat.reduceAdd]at O);(first|((first|refine DD O hHeld ?_|refine DC O hHeld ?_);(try simp only[pA,pZ,pS,pN]);replace O:=O.nx;(try simp only[Nat.reduceAdd]at O);(first|((first|refine DD O hHeld ?_|refine DC O hHeld ?_);(try simp only[pA,pZ,pS,pN]);replace O:=O.nx;(try simp only[Nat.reduceAdd]at O);(first|((first|refine DD O hHeld ?_|refine DC O hHeld ?_);(try simp only[pA,pZ,pS,pN]);replace O:=O.nx;(try simp only[Nat.reduceAdd]at O))|skip))|skip))|skip))|skip))|skip))|skip))|skip))|skip))|skip))|skip))|skip))|skip))|skip))|skip))|skip))|skip))|skip))|skip))|skip))|skip))|skip))|skip))|skip))|skip))|skip))|skip))|skip))|skip))|skip))|skip))|skip))|skip))|skip))|skip))|skip))|skip);exact hQ.o):P:=h trivial k
structure Bd where
 A:ByteArray
 val:V
def Bd.R(_:World)(r:List Value)(x:Bd):Prop:=r=[.string x.A,.int .i64 x.val.u,.int .i64 x.val.num,.string x.val.J]
abbrev Gi(q:Option Nat)(w:World)(a:Option Addr)(xs:List Bd):Prop:=Cr Bd.R q 367 4 w a xs
def Gi.d{q w w' a xs}(h:Gi q w a xs)(b:Bw w w'):Gi q w' a xs:=Cr.d h (λ_ _ _ h=>h) b
def Gi.get{q w a xs i x}(h:Gi q w a xs)(g:xs[i]?=some x):∃b o,a=some ⟨b,o,none⟩/\Qb q w 367 b/\At w b (o+i*4) (.string x.A)/\At w b (o+i*4+1) (I6 x.val.u)/\At w b (o+i*4+2) (I6 x.val.num)/\At w b (o+i*4+3) (.string x.val.J):=by
 obtain⟨b,o,r,e,d,j,c,f⟩:=h i x g;subst f;exact⟨b,o,e,d,c 0 _ rfl,c 1 _ rfl,c 2 _ rfl,c 3 _ rfl⟩
def CT(bs:List Bd)(s:ByteArray):Option V:=
 match bs with
 |[]=>none
 |b::r=>if b.A=s then some b.val else CT r s
def MY(b r s):CT (b::r) s=if b.A=s then some b.val else CT r s:=rfl
def Nf:V:=(0,0,⟨#[]⟩)
def Dn(out:List Bd)(t:Tm)(v:V):Option (List Bd):=
 if t.u=1 then(if v=t.val then some out else none)
 else if t.u=2 then(match CT out t.A with|some old=>if old=v then some out else none|none=>some (out++[⟨t.A,v⟩]))
 else if t.u=3 then(if AZ t.op v (if t.A=⟨#[]⟩ then t.val else(CT out t.A).getD Nf)=true then some out else none)
 else some out
def El:List Bd->List Tm->List V->Option (List Bd)
 |out,[],_=>some out
 |out,_::_,[]=>some out
 |out,t::ts,v::vs=>(match Dn out t v with|some o=>El o ts vs|none=>none)
def Bh(p:Pt)(f:F)(bs:List Bd):Option (List Bd):=if p.z=f.z/\p.e.length=f.s.length then El bs p.e f.s else none
def S_(out:List Bd)(t:Tm)(ts:List Tm)(v:V)(vs:List V):El out (t::ts) (v::vs)=(match Dn out t v with|some o=>El o ts vs|none=>none):=rfl
def zi{out o t ts v vs}(h:Dn out t v=some o):El out (t::ts) (v::vs)=El o ts vs:=by rw[S_,h]
def x7{out t ts v vs}(h:Dn out t v=none):El out (t::ts) (v::vs)=none:=by rw[S_,h]
def TO(h:P:=by injection h with h;subst h;omega):=h
def sS{out o t v}(h:Dn out t v=some o):o.length<=out.length+1:=by
 unfold Dn at h;split at h
 .split at h
  .exact TO
  cases h
 split at h
 .split at h
  .split at h
   .exact TO
   cases h
  injection h with h;subst h;simp
 split at h
 .by_cases a:AZ t.op v (if t.A=⟨#[]⟩ then t.val else(CT out t.A).getD Nf)=true
  .rw[if_pos a]at h;exact TO
  rw[if_neg a]at h;cases h
 exact TO
structure Pm where
 K:List Int
 ao:List Bd
def Dj(p:Pt)(x:Pm):List F->List Pm
 |[]=>[]
 |f::r=>(match Bh p f x.ao with|some bs=>[⟨x.K++[f.tag],bs⟩]|none=>[])++Dj p x r
def Gu(p:Pt)(fs:List F)(x:Pm):List Pm:=if p.neg=true then(if(Dj p x fs).length=0 then [x] else []) else Dj p x fs
def CJ(p:Pt)(fs:List F)(xs:List Pm):List Pm:=xs.flatMap (Gu p fs)
def AP:List Pt->List F->List Pm->Nat->List Pm × Nat
 |[],_,xs,n=>(xs,n)
 |p::ps,fs,xs,n=>AP ps fs (CJ p fs xs) (n+(CJ p fs xs).length)
def Qf(p:Pt)(x:Pm)(f:F):∀l:List F,Dj p x (l++[f])=Dj p x l++(match Bh p f x.ao with|some a=>[⟨x.K++[f.tag],a⟩]|none=>[])
 |[]=>by simp[Dj]
 |g::r=>by
  simp only[Yb,Dj]
  rw[Qf p x f r,yW]
def SV(p x):∀l:List F,(Dj p x l).length<=l.length
 |[]=>yu _
 |f::r=>by
  have:=SV p x r
  simp only[Dj,yP,yI]
  split<;>simp<;>omega
def zn8(p fs x):(Gu p fs x).length<=fs.length+1:=by
 have:=SV p x fs;unfold Gu;split
 .split<;>simp
 omega
def oC(h:P:=by
 cases k1:(v.u==0)<;>cases k2:(o.u==0)
 all_goals
  go_enter func239,ntmps239;go_wp2
 all_goals go_ret
 all_goals exact⟨AL (by simp[AZ,My, *]),AX⟩
 ):=h
def TP(h:P:=by
 cases k1:(v.u==0)<;>cases k2:(o.u==0)
 all_goals
  go_enter func239,ntmps239;go_wp2
 all_goals go_ret
 all_goals exact⟨AL (by simp[AZ,Ij, *]),AX⟩
 ):=h
def Tr(v o a w) :
  Ca 239 #[I6 a,.agg #[I6 v.u,I6 v.num,.string v.J],.agg #[I6 o.u,I6 o.num,.string o.J]] w λe w'=>
   e=.returned (.bool (AZ a v o))/\Bw w w':=by
 by_cases g:a=1
 .subst g;exact oC
 by_cases b:a=2
 .subst b;exact oC
 by_cases f:a=3
 .subst f;exact TP
 by_cases d:a=4
 .subst d;exact TP
 by_cases i:a=5
 .subst i;exact TP
 by_cases c:a=6
 .subst c;exact TP
 cases k1:(v.u==0)<;>cases k2:(o.u==0)
 all_goals
  go_enter func239,ntmps239;go_wp2
 all_goals go_ret
 all_goals exact⟨AL (by simp[AZ, *]),AX⟩
end Go.Proofs.YtikojfajahnhgaaGreat
