/- slices.SortFunc at no rows. -/
import Derived.Test.YtopeeokjfaampaaGWeighRef
import Derived.Test.YtopeeokjfaampaaGWeighFns
import Derived.Test.YtopeeokjfaampaaGZShelf
import Derived.Shelf.Abstract
import Derived.Shelf.SlSortCmp.WholeK
namespace Go.Proofs.Ytopeeokjfaampaa
open Go Go.RowKit
abbrev RowAt (w:World):Type:={ x:Value×Tm // StrsIn w x.1 x.2.1 }
instance (w:World):Inhabited (RowAt w):=⟨⟨(.slice none 0 0,([],0)),SliceOf.nil_ w 1 none 0⟩⟩
set_option maxHeartbeats 1000000 in
theorem insertion_none (p:Option Addr)(cap:Nat)(fv:Value)(w:World) :
  Calls Try.prog 38 #[.slice p 0 cap,.int .i64 0,.int .i64 0,fv] w fun e w'=>e=.returned (.tuple #[])∧w'=w:=by
 go_enter Try.func38,Try.ntmps38
 go_wp2
 refine wp_loop_rounds 1 ?_
 rw [rounds_succ]
 go_wp2
 go_end0
 exact ⟨rfl,rfl⟩
set_option maxHeartbeats 1000000 in
theorem pdq_none (p:Option Addr)(cap:Nat)(lim:Int)(fv:Value)(w:World) :
  Calls Try.prog 32 #[.slice p 0 cap,.int .i64 0,.int .i64 0,.int .i64 lim,fv] w fun e w'=>e=.returned (.tuple #[])∧w'=w:=by
 have hi:=fun W=>insertion_none p cap fv W
 go_enter Try.func32,Try.ntmps32
 go_wp2
 refine wp_loop_rounds 1 ?_
 rw [rounds_succ]
 go_wp2_with (go_at_call 38;refine (hi _).mono ?_;rintro e w' ⟨rfl,rfl⟩)
 (try simp only [Exit.inBlock,Exit.then]);refine bodyPost_ret (results_none rfl _ _ _) rfl ?_
 exact ⟨rfl,rfl⟩
set_option maxHeartbeats 1000000 in
theorem sort_none (p:Option Addr)(cap:Nat)(fv:Value)(w:World) :
  Calls Try.prog 22 #[.slice p 0 cap,fv] w fun e w'=>e=.returned (.tuple #[])∧w'=w:=by
 have hp:=fun lim W=>pdq_none p cap lim fv W
 have hl:=fun W=>Try.bits_Len 0 W (by omega) (by omega)
 go_enter Try.func22,Try.ntmps22
 go_wp2_with (first|(go_at_call 33;refine (hl _).mono ?_;rintro e w' ⟨rfl,rfl⟩)|(go_at_call 32;refine (hp _ _).mono ?_;rintro e w' ⟨rfl,rfl⟩))
 go_end0
 exact ⟨rfl,rfl⟩
end Go.Proofs.Ytopeeokjfaampaa
