import Derived.Test.YtikojfajahnhgaaGreatKat
set_option linter.all false
namespace Go.Proofs.YtikojfajahnhgaaGreat
attribute [local simp] At I6 Pn mzI
attribute [local go_sem] At I6 Pn
open Go.RowKit Go.Proofs.Tryz
attribute [local go_sem ↓] wp_at_zero wp_at_succ
set_option maxHeartbeats 3200000 in
def zoF(e a c)(S:List Sp)(w)(p:e.le maxLen)(s:e.u=1) :
  Ca 250 #[.agg #[I6 e.u,.int .u8 e.op,.string e.A,I6 e.val.u,I6 e.val.num,.string e.val.J,I6 e.a,I6 e.b],.slice a S.length c] w λr w'=>
   r=.returned (.tuple #[.agg #[I6 (S.length:Int),I6 0],.bool (CM e&&(Aq e.A.data.toList&&Cc e.val))])/\Bw w w':=by
 obtain⟨d,O⟩:=p;by_cases l:e.op=0
 .by_cases i:e.val.u=0
  .by_cases m:e.val.num=0
   .by_cases f:e.val.J.toList=[]
    .by_cases k:e.a=0
     .by_cases g:e.b=0
      .have n:Hid ((CM e&&(Aq e.A.data.toList&&Cc e.val))=Aq e.A.data.toList):=show(CM e&&(Aq e.A.data.toList&&Cc e.val))=Aq e.A.data.toList from by simp[CM,Cc,BG,l,k,g,i,m,f]
       go_enter func250,ntmps250;go_wp2
       first
       |(go_region_law (first|(go_simp;go_at_call 197;refine(IM e.A _ d).j ?_;rintro q w' ⟨rfl,rfl⟩)))
       |fail
       all_goals go_wp2
       all_goals refine bodyPost_ret (v:=.tuple #[.agg #[I6 (S.length:Int),I6 0],.bool (Aq e.A.data.toList)]) (by simp[results,results250,go_sem]) rfl ⟨?_,?_⟩
       all_goals first|(rw[n.o];done)|(repeat first|exact Bj|refine Below.drew ?_|refine WU ?_ qv _;done)
      have HN:Hid ((CM e&&(Aq e.A.data.toList&&Cc e.val))=false):=show(CM e&&(Aq e.A.data.toList&&Cc e.val))=false from by simp[CM,g]
      exact JV
     have HN:Hid ((CM e&&(Aq e.A.data.toList&&Cc e.val))=false):=show(CM e&&(Aq e.A.data.toList&&Cc e.val))=false from by simp[CM,k]
     exact JV
    have HN:Hid ((CM e&&(Aq e.A.data.toList&&Cc e.val))=false):=show(CM e&&(Aq e.A.data.toList&&Cc e.val))=false from by simp[Cc,BG,f]
    exact JV
   have HN:Hid ((CM e&&(Aq e.A.data.toList&&Cc e.val))=false):=show(CM e&&(Aq e.A.data.toList&&Cc e.val))=false from by simp[Cc,m]
   exact JV
  have HN:Hid ((CM e&&(Aq e.A.data.toList&&Cc e.val))=false):=show(CM e&&(Aq e.A.data.toList&&Cc e.val))=false from by simp[Cc,i]
  exact JV
 have HN:Hid ((CM e&&(Aq e.A.data.toList&&Cc e.val))=false):=show(CM e&&(Aq e.A.data.toList&&Cc e.val))=false from by simp[CM,l]
 exact JV
end Go.Proofs.YtikojfajahnhgaaGreat
