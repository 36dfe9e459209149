/- The walks of 'small' and 'at' of layer 10's laws. -/
import Derived.Test.YtopeeokjfaampaaGStrs
import Derived.Test.YtopeeokjfaampaaGTimes
namespace Go.Proofs.Ytopeeokjfaampaa
open Go Go.RowKit
theorem times_some {w:World}{v:Value}{l:List Tm}(h:TimesIn w v l)(h0:0 < l.length):∃ b off cap,v=.slice (some ⟨b,off,none⟩) l.length cap:=by
 obtain ⟨tv,A,cap,rfl,_,hat⟩:=times_at h
 obtain ⟨b,off,rfl,_⟩:=hat 0 h0
 exact ⟨b,off,cap,rfl⟩
theorem times_cellAt {w:World}{b off n cap:Nat}{l:List Tm}(h:TimesIn w (.slice (some ⟨b,off,none⟩) n cap) l)(j:Nat)(hj:j < l.length) :
  ∃ rv,StrsIn w rv l[j].1∧w.cell? ⟨b,off+j*2,none⟩=some rv∧w.cell? ⟨b,off+j*2+1,none⟩=some (.int .i64 l[j].2):=by
 obtain ⟨tv,A,cap',e,_,hat⟩:=times_at h
 cases e
 obtain ⟨b',off',e1,_,hc⟩:=hat j hj
 cases e1
 obtain ⟨rv,hs,_,c1,c2⟩:=hc j hj
 exact ⟨rv,hs,c1,c2⟩
theorem times_slice {w:World}{v:Value}{l:List Tm}(h:TimesIn w v l):∃ A cap,v=.slice A l.length cap:=by
 obtain ⟨tv,A,cap,e,_⟩:=times_at h
 exact ⟨A,cap,e⟩
end Go.Proofs.Ytopeeokjfaampaa
