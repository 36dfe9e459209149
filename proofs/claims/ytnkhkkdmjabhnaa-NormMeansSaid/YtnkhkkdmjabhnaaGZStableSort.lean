/- slices.SortStableFunc at parts of five cells. -/
import Derived.Test.YtnkhkkdmjabhnaaGZStableMerge
import Derived.Test.YtnkhkkdmjabhnaaGZStableRuns
namespace Go.Proofs.Ytnkhkkdmjabhnaa
open Go Go.RowKit Go.Lib Go.Sort
theorem cmp_lays_at {P:Program}{g:Nat}{cb:Array Value}{enc:PartV→List Value}{k:Nat}{cf:PartV→PartV→Int}{blk off size:Nat}{w0 W:World}{dk:Array PartV}(hC:CmpLays P g cb enc k cf blk off size w0)(S:SWK enc k w0 blk off dk W)(hblk:blk < w0.heap.size)(hs:dk.size=size):CmpLays P g cb enc k cf blk off size W:=by
 intro m os d' h x y
 obtain ⟨n,o,rfl⟩:=S
 rw [sortWorldK_on enc k w0 blk off n m dk d' o os hblk (h.trans hs.symm)]
 exact hC _ _ d' h x y
section
variable {blk off cap:Nat}{d0:Array PartV}{w0:World}{lt:PartV→PartV→Bool}{cf:PartV→PartV→Int}{g:Nat}
theorem ins_sort_calls (R:RowK encV 5 w0 blk off d0)(eg:∀ args w,(callFunc g args).run Try.prog w=.ok (.enter g args) w)(hC:CmpLays Try.prog g #[] encV 5 cf blk off d0.size w0){a b:Nat}{d:Array PartV}{w:World}(hs:d.size=d0.size)(S:SWK encV 5 w0 blk off d w)(hab:a≤b)(hb:b≤d.size)(hsz:d.size < 4611686018427387904) :
  Calls Try.prog 53 #[.slice (some ⟨blk,off,none⟩) d.size cap,.int .i64 a,.int .i64 b,.func (.func g) #[] #[]] w fun e w'=>e=.returned (.tuple #[])∧SWK encV 5 w0 blk off (insertionSort (ltOf cf) d a b) w':=by
 have h:=AnyQ.insertionSortCmpFunc Try.laysIns53 5 Try.isAgg52 Try.sizeOf52 encV encV_len encV_one cf g #[] blk off cap a b d w eg (hs▸cmp_lays_at hC S R.hblk hs) (S.holds R.hblk R.hH hs) (S.lt R.hblk) hab hb hsz
 refine h.mono ?_
 rintro e w' ⟨rfl,n,os,rfl⟩
 exact ⟨rfl,S.on R.hblk n _ os (insertion_size _ _ _ _)⟩
set_option maxHeartbeats 8000000 in
set_option maxRecDepth 100000 in
theorem stable_calls (R:RowK encV 5 w0 blk off d0)(eg:∀ args w,(callFunc g args).run Try.prog w=.ok (.enter g args) w)(hC:CmpLays Try.prog g #[] encV 5 cf blk off d0.size w0)(hS:SWO lt)(hc:∀ x y,PartV.tag y < PartV.tag x→decide (cf x y < 0)=lt x y)
  (hsz:d0.size≤1000000000) {n:Nat} (hn:n=d0.size) (ht:∀ i,i < n→PartV.tag d0[i]! = i) {w:World} (S:SWK encV 5 w0 blk off d0 w) :
  Calls Try.prog 46 #[.slice (some ⟨blk,off,none⟩) n cap,.int .i64 n,.func (.func g) #[] #[]] w fun e w'=>e=.returned (.tuple #[])∧∃ d',PermIn 0 n d0 d'∧SWK encV 5 w0 blk off d' w'∧SortedIn lt 0 n d':=by
 have S0:Go.Aside (SWK encV 5 w0 blk off d0 w):=S
 have HN:Go.Aside (n=d0.size∧n≤1000000000):=⟨hn,by omega⟩
 have HT:Go.Aside (∀ i,i < n→PartV.tag d0[i]! = i):=ht
 have HI:Go.Aside (∀ (a b:Nat) (d:Array PartV) (w:World),d.size=n→SWK encV 5 w0 blk off d w→a≤b→b≤n→(∀ p q,a≤p→p < q→q < b→PartV.tag d[p]! < PartV.tag d[q]!) →
   Calls Try.prog 53 #[.slice (some ⟨blk,off,none⟩) n cap,.int .i64 a,.int .i64 b,.func (.func g) #[] #[]] w fun e w'=>e=.returned (.tuple #[])∧∃ d',PermIn a b d d'∧SWK encV 5 w0 blk off d' w'∧SortedIn lt a b d'):=fun a b d w hd hw hab hb htt=>by
  subst hd
  refine (ins_sort_calls (cap:=cap) R eg hC hn hw hab hb (by omega)).mono ?_
  rintro e w' ⟨rfl,s⟩
  have t:=insertion_tag (l1:=ltOf cf) hS (tag:=PartV.tag) (fun x y h=>hc x y h) hab hb htt
  exact ⟨rfl,_,t.1,s,t.2⟩
 have HM:Go.Aside (∀ (a m b:Nat) (d:Array PartV) (w:World),d.size=n→SWK encV 5 w0 blk off d w→a < m→m < b→b≤n→Run lt PartV.tag a m d→Run lt PartV.tag m b d →
   Calls Try.prog 54 #[.slice (some ⟨blk,off,none⟩) n cap,.int .i64 a,.int .i64 m,.int .i64 b,.func (.func g) #[] #[]] w fun e w'=>e=.returned (.tuple #[])∧∃ d',PermIn a b d d'∧SWK encV 5 w0 blk off d' w'∧SortedIn lt a b d'):=fun a m b d w hd hw ham hmb hb r1 r2=>by
  subst hd
  exact sym_merge_calls R eg hC hS hc (by omega) d.size a m b d w (by omega) hn hw ham hmb hb r1.1 r2.1 (r1.2.ahead r2.2)
 clear S hn ht hC hS hc hsz
 go_enter Try.func46,Try.ntmps46
 go_wp2
 go_loopg [7,8] (n) (fun kx s t wr=>∃ (a:Nat) (dk:Array PartV),s=.int .i64 a∧t=.int .i64 ((a:Int)+20)∧Go.Aside (20 ∣ a∧a≤n∧n-a≤kx)∧Go.Aside (PermIn 0 n d0 dk)∧Go.Aside (SWK encV 5 w0 blk off dk wr)∧Go.Aside (RunsTo lt PartV.tag 20 a dk)∧Go.Aside (∀ i,a≤i→i < n→PartV.tag dk[i]! = i))
 case atStart=>exact ⟨0,d0,rfl,rfl,⟨Nat.dvd_zero _,Nat.zero_le _,by omega⟩,permIn_refl _ _ _,S0,fun x _ h=>absurd h (by omega),fun i _ h=>HT.out i h⟩
 case round =>
  clear S0
  obtain ⟨a,dk,rfl,rfl,HA,P1,S1,R1,T1⟩:=hrel
  have hA:=HA.out
  have hN:=HN.out
  have hds:dk.size=n:=by rw [P1.out.1,←hN.1]
  by_cases hlt:a+20≤n
  ·have hltz:(a:Int)+20≤(n:Int):=by omega
   have HC:=Lib.hid (HI.out a (a+20) dk wr hds S1.out (by omega) hlt (fun p q h1 h2 h3=>by rw [T1.out p h1 (by omega),T1.out q (by omega) (by omega)];exact h2))
   have ra:IntKind.i64.wrap ((a:Int)+20+20)=(a:Int)+20+20:=by rw [IntKind.wrap_i64];omega
   have HLT:Go.Aside (a+20≤n):=hlt
   have HDS:Go.Aside (dk.size=n):=hds
   have ca:((a+20:Nat):Int)=(a:Int)+20:=by omega
   rw [ca] at HC
   clear hA hN hds hlt S1 ca
   go_wp2_with fail
   refine HC.out.mono ?_
   rintro e w2 ⟨rfl,d2,p2,s2,o2⟩
   have S2:Go.Aside (SWK encV 5 w0 blk off d2 w2):=s2
   have RB:Go.Aside (RunsTo lt PartV.tag 20 (a+20) d2∧∀ i,a+20≤i→i < n→PartV.tag d2[i]! = i):=runs_block (by decide) HA.out.1 rfl (by rw [HDS.out];exact Nat.le_refl _) HLT.out R1.out T1.out p2 o2
   have P2:Go.Aside (PermIn 0 n d0 d2):=by
    have hl:=HLT.out
    have hd:=HDS.out
    exact permIn_trans _ _ _ _ _ P1.out (perm_wide (Nat.zero_le _) hl (by omega) (by omega) p2)
   clear p2 s2 o2 HC
   go_wp2
   go_roundg (n-(a+20))
   case measure=>have hA:=HA.out;have hl:=HLT.out;omega
   case rel =>
    have hA:=HA.out
    have hl:=HLT.out
    exact ⟨a+20,d2,by go_num,by first|rfl|go_num,⟨Nat.dvd_add hA.1 (Nat.dvd_refl _),hl,Nat.le_refl _⟩,P2,S2,RB.out.1,RB.out.2⟩
  ·have hltz:¬(a:Int)+20≤(n:Int):=by omega
   have HC:=Lib.hid (HI.out a n dk wr hds S1.out (by omega) (Nat.le_refl _) (fun p q h1 h2 h3=>by rw [T1.out p h1 (by omega),T1.out q (by omega) (by omega)];exact h2))
   have HLT:Go.Aside (n < a+20):=by show _ < _;omega
   have HDS:Go.Aside (dk.size=n):=hds
   clear hA hN hds hlt S1
   go_wp2_with fail
   refine HC.out.mono ?_
   rintro e w2 ⟨rfl,d2,p2,s2,o2⟩
   have S2:Go.Aside (SWK encV 5 w0 blk off d2 w2):=s2
   have RF:Go.Aside (RunsFrom lt PartV.tag 20 0 n d2):=runs_blocks HA.out.1 HA.out.2.1 HLT.out (by rw [HDS.out];exact Nat.le_refl _) R1.out T1.out p2 o2
   have P2:Go.Aside (PermIn 0 n d0 d2):=by
    have hd:=HDS.out
    have hA:=HA.out
    exact permIn_trans _ _ _ _ _ P1.out (perm_wide (Nat.zero_le _) (Nat.le_refl _) (by omega) (by omega) p2)
   clear p2 s2 o2 HC P1 R1 T1 HA HLT HDS hltz
   go_wp2
   go_loopg [6] (n) (fun kx s wr=>∃ (bs:Nat) (dk:Array PartV),s=.int .i64 bs∧Go.Aside (20≤bs∧n-bs≤kx∧bs≤2*n+20)∧Go.Aside (PermIn 0 n d0 dk)∧Go.Aside (SWK encV 5 w0 blk off dk wr)∧Go.Aside (RunsFrom lt PartV.tag bs 0 n dk))
   case atStart=>exact ⟨20,d2,rfl,⟨Nat.le_refl _,by omega,by omega⟩,P2,S2,RF⟩
   case round =>
    clear S2 P2 RF
    obtain ⟨bs,dk,rfl,HBS,P1,S1,RF⟩:=hrel
    have hBS:=HBS.out
    have hN:=HN.out
    by_cases hlt:bs < n
    ·have hltz:(bs:Int) < (n:Int):=by omega
     have rb2:IntKind.i64.wrap (2*(bs:Int))=2*(bs:Int):=by rw [IntKind.wrap_i64];omega
     have HLT:Go.Aside (bs < n):=hlt
     clear hBS hN hlt
     go_wp2
     go_loopg [7,8] (n) (fun kx s t wr=>∃ (a:Nat) (dk:Array PartV),s=.int .i64 a∧t=.int .i64 ((a:Int)+2*(bs:Int))∧Go.Aside (2*bs ∣ a∧a≤n∧n-a≤kx)∧Go.Aside (PermIn 0 n d0 dk)∧Go.Aside (SWK encV 5 w0 blk off dk wr)∧Go.Aside (RunsTo lt PartV.tag (2*bs) a dk)∧Go.Aside (RunsFrom lt PartV.tag bs a n dk))
     case atStart=>exact ⟨0,dk,rfl,by first|rfl|go_num,⟨Nat.dvd_zero _,Nat.zero_le _,by omega⟩,P1,S1,fun x _ h=>absurd h (by have:=HLT.out;have:=HBS.out;omega),RF⟩
     case round =>
      clear S1 P1 RF
      obtain ⟨a,dk,rfl,rfl,HA,P1,S1,R1,R2⟩:=hrel
      have hA:=HA.out
      have hN:=HN.out
      have hBS:=HBS.out
      have hl:=HLT.out
      have hds:dk.size=n:=by rw [P1.out.1,←hN.1]
      have ra:IntKind.i64.wrap ((a:Int)+(bs:Int))=(a:Int)+(bs:Int):=by rw [IntKind.wrap_i64];omega
      have haB:bs ∣ a:=Nat.dvd_trans (Nat.dvd_mul_left bs 2) hA.1
      have HDS:Go.Aside (dk.size=n):=hds
      by_cases hlt2:a+2*bs≤n
      ·have hltz2:(a:Int)+2*(bs:Int)≤(n:Int):=by omega
       have two:=runs_two haB R2.out (by omega) (b:=a+2*bs) (by omega)
       have HC:=Lib.hid (HM.out a (a+bs) (a+2*bs) dk wr hds S1.out (by omega) (by omega) hlt2 two.1 two.2)
       have rb:IntKind.i64.wrap ((a:Int)+2*(bs:Int)+2*(bs:Int))=(a:Int)+2*(bs:Int)+2*(bs:Int):=by rw [IntKind.wrap_i64];omega
       have HL2:Go.Aside (a+2*bs≤n):=hlt2
       have ca:((a+bs:Nat):Int)=(a:Int)+(bs:Int):=by omega
       have cb:((a+2*bs:Nat):Int)=(a:Int)+2*(bs:Int):=by omega
       have CB:Go.Aside (((a+2*bs:Nat):Int)=(a:Int)+2*(bs:Int)):=cb
       rw [ca,cb] at HC
       clear hA hN hds hlt2 S1 ca cb hBS hl haB two
       go_wp2_with fail
       refine HC.out.mono ?_
       rintro e w2 ⟨rfl,d2,p2,s2,o2⟩
       have S2:Go.Aside (SWK encV 5 w0 blk off d2 w2):=s2
       have RB:Go.Aside (RunsTo lt PartV.tag (2*bs) (a+2*bs) d2∧RunsFrom lt PartV.tag bs (a+2*bs) n d2):=runs_step (by have:=HBS.out;omega) HA.out.1 rfl (by rw [HDS.out];exact Nat.le_refl _) HL2.out R1.out R2.out p2 o2
       have P2:Go.Aside (PermIn 0 n d0 d2):=by
        have hl:=HL2.out
        have hd:=HDS.out
        exact permIn_trans _ _ _ _ _ P1.out (perm_wide (Nat.zero_le _) hl (by omega) (by omega) p2)
       clear p2 s2 o2 HC
       go_wp2
       go_roundg (n-(a+2*bs))
       case measure=>have hA:=HA.out;have hl:=HL2.out;have hb:=HBS.out;omega
       case rel =>
        have hA:=HA.out
        have hl:=HL2.out
        refine ⟨a+2*bs,d2,?_,?_,⟨Nat.dvd_add hA.1 (Nat.dvd_refl _),hl,Nat.le_refl _⟩,P2,S2,RB.out.1,RB.out.2⟩
        ·rw [CB.out]
        ·rw [CB.out]
      ·have hltz2:¬(a:Int)+2*(bs:Int)≤(n:Int):=by omega
       have rd:IntKind.i64.wrap ((bs:Int)*2)=((2*bs:Nat):Int):=by rw [IntKind.wrap_i64];omega
       by_cases hm:a+bs < n
       ·have hmz:(a:Int)+(bs:Int) < (n:Int):=by omega
        have two:=runs_two haB R2.out hm (b:=n) (by omega)
        have HC:=Lib.hid (HM.out a (a+bs) n dk wr hds S1.out (by omega) hm (Nat.le_refl _) two.1 two.2)
        have ca:((a+bs:Nat):Int)=(a:Int)+(bs:Int):=by omega
        rw [ca] at HC
        have HRR:Go.Aside (a+bs < n∧n < a+2*bs):=⟨hm,by omega⟩
        clear hA hN hds hlt2 S1 ca hBS hl haB two hm
        go_wp2_with fail
        refine HC.out.mono ?_
        rintro e w2 ⟨rfl,d2,p2,s2,o2⟩
        have S2:Go.Aside (SWK encV 5 w0 blk off d2 w2):=s2
        have RB:Go.Aside (RunsFrom lt PartV.tag (2*bs) 0 n d2):=runs_rest HA.out.1 HRR.out.1 HRR.out.2 (by rw [HDS.out];exact Nat.le_refl _) R1.out R2.out p2 o2
        have P2:Go.Aside (PermIn 0 n d0 d2):=by
         have hd:=HDS.out
         have hr:=HRR.out
         exact permIn_trans _ _ _ _ _ P1.out (perm_wide (Nat.zero_le _) (Nat.le_refl _) (by omega) (by omega) p2)
        clear p2 s2 o2 HC
        go_wp2
        go_roundg (n-2*bs)
        case measure=>have hb:=HBS.out;have hl:=HLT.out;omega
        case rel =>
         have hb:=HBS.out
         have hl:=HLT.out
         exact ⟨2*bs,d2,rfl,⟨by omega,Nat.le_refl _,by omega⟩,P2,S2,RB⟩
       ·have hmz:¬(a:Int)+(bs:Int) < (n:Int):=by omega
        have RB:Go.Aside (RunsFrom lt PartV.tag (2*bs) 0 n dk):=runs_rest_none HA.out.1 HA.out.2.1 hm (by omega) R1.out R2.out
        clear hA hN hds hlt2 hBS hl haB hm
        go_wp2
        go_roundg (n-2*bs)
        case measure=>have hb:=HBS.out;have hl:=HLT.out;omega
        case rel =>
         have hb:=HBS.out
         have hl:=HLT.out
         exact ⟨2*bs,dk,rfl,⟨by omega,Nat.le_refl _,by omega⟩,P1,S1,RB⟩
    ·have hltz:¬(bs:Int) < (n:Int):=by omega
     have HFIN:Hid (SortedIn lt 0 n dk):=runs_all RF.out (by omega)
     clear hBS hN hlt
     go_wp2
     go_end0
     exact ⟨rfl,dk,P1.out,S1.out,HFIN.out⟩
theorem sort_stable_calls (R:RowK encV 5 w0 blk off d0)(eg:∀ args w,(callFunc g args).run Try.prog w=.ok (.enter g args) w)(hC:CmpLays Try.prog g #[] encV 5 cf blk off d0.size w0)(hS:SWO lt)(hc:∀ x y,PartV.tag y < PartV.tag x→decide (cf x y < 0)=lt x y)
  (hsz:d0.size≤1000000000) {n:Nat} (hn:n=d0.size) (ht:∀ i,i < n→PartV.tag d0[i]! = i) :
  Calls Try.prog 30 #[.slice (some ⟨blk,off,none⟩) n cap,.func (.func g) #[] #[]] w0 fun e w'=>e=.returned (.tuple #[])∧∃ d',PermIn 0 n d0 d'∧SWK encV 5 w0 blk off d' w'∧SortedIn lt 0 n d':=by
 have HC:=Lib.hid (stable_calls (cap:=cap) R eg hC hS hc hsz hn ht (SWK.start R.hH))
 clear hC hS hc hsz hn ht
 go_enter Try.func30,Try.ntmps30
 go_wp2_with fail
 refine HC.out.mono ?_
 rintro e w2 ⟨rfl,h⟩
 have H:=Lib.hid h
 clear h HC
 go_wp2
 go_end0
 exact ⟨rfl,H.out⟩
end
end Go.Proofs.Ytnkhkkdmjabhnaa
