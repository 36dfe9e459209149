/- Cells read one run behind the other: what is known between two runs; no walk. -/
import Derived.Test.YtafmbnafibahkaaGreatGCell
import Derived.Test.YtafmbnafibahkaaGreatGVary
import Derived.Test.YtafmbnafibahkaaGreatGStrs
namespace Go.Proofs.YtafmbnafibahkaaGreat
open Go Go.RowKit
theorem ba_len (s:ByteArray):s.data.toList.length=s.size:=Array.length_toList
def addRun (rs:List (ByteArray×Nat))(c:ByteArray):List (ByteArray×Nat) :=
 match rs.getLast? with
 | none=>[(c,1)]
 | some (d,n)=>if d=c then rs.dropLast++[(d,n+1)] else rs++[(c,1)]
def runsOf (l:List ByteArray):List (ByteArray×Nat):=l.foldl addRun []
theorem runsOf_snoc (l:List ByteArray)(c:ByteArray):runsOf (l++[c])=addRun (runsOf l) c:=by simp [runsOf,List.foldl_append]
def spread (rs:List (ByteArray×Nat)):List ByteArray:=rs.flatMap fun x=>List.replicate x.2 x.1
def many (rs:List (ByteArray×Nat)):Nat:=(rs.map (·.2)).foldr (· + ·) 0
theorem many_nil:many []=0:=rfl
theorem many_cons (x:ByteArray×Nat)(rs:List (ByteArray×Nat)):many (x::rs)=x.2+many rs:=rfl
theorem many_append (rs tl:List (ByteArray×Nat)):many (rs++tl)=many rs+many tl:=by
 induction rs with
 | nil=>simp [many_nil]
 | cons x rs ih=>simp only [List.cons_append,many_cons,ih];omega
theorem spread_length (rs:List (ByteArray×Nat)):(spread rs).length=many rs:=by
 induction rs with
 | nil=>rfl
 | cons x rs ih=>rw [many_cons,←ih];simp [spread]
theorem spread_append (rs tl:List (ByteArray×Nat)):spread (rs++tl)=spread rs++spread tl:=by simp [spread]
def Good:List (ByteArray×Nat)→Prop
 | []=>True
 | [x]=>1≤x.2
 | x::y::rs=>1≤x.2∧x.1≠y.1∧Good (y::rs)
theorem Good.tail {x:ByteArray×Nat}{rs:List (ByteArray×Nat)}(h:Good (x::rs)):Good rs∧1≤x.2:=by
 cases rs with
 | nil=>exact ⟨trivial,h⟩
 | cons y rs=>exact ⟨h.2.2,h.1⟩
theorem good_snoc:∀ (rs:List (ByteArray×Nat))(x:ByteArray×Nat),Good rs→1≤x.2→(∀ y,rs.getLast? = some y→y.1≠x.1)→Good (rs++[x])
 | [],x,_,h,_=>h
 | [y],x,h0,h,h1=>⟨h0,h1 y rfl,h⟩
 | y::z::rs,x,h0,h,h1=>⟨h0.1,h0.2.1,good_snoc (z::rs) x h0.2.2 h (fun w hw=>h1 w (by simpa using hw))⟩
theorem good_append_left:∀ (rs tl:List (ByteArray×Nat)),Good (rs++tl)→Good rs
 | [],_,_=>trivial
 | [_],_,h=>h.tail.2
 | _::y::rs,tl,h=>⟨h.1,h.2.1,good_append_left (y::rs) tl h.2.2⟩
theorem good_append_right (rs tl:List (ByteArray×Nat))(h:Good (rs++tl)):Good tl:=by
 induction rs with
 | nil=>exact h
 | cons x rs ih=>exact ih h.tail.1
theorem good_meet:∀ (rs tl:List (ByteArray×Nat))(x y:ByteArray×Nat),Good (rs++y::tl)→rs.getLast? = some x→x.1≠y.1
 | [],_,_,_,_,h=>by simp at h
 | [z],tl,x,y,hg,h=>by simp at h;subst h;exact hg.2.1
 | z::z'::rs,tl,x,y,hg,h=>good_meet (z'::rs) tl x y hg.2.2 (by simpa using h)
theorem Good.one_le {rs:List (ByteArray×Nat)}(h:Good rs):∀ x∈rs,1≤x.2:=by
 induction rs with
 | nil=>simp
 | cons y rs ih =>
  intro x hx
  rcases List.mem_cons.1 hx with rfl|hx
  ·exact h.tail.2
  ·exact ih h.tail.1 x hx
theorem many_zero {rs:List (ByteArray×Nat)}(h:Good rs)(h0:many rs=0):rs=[]:=by
 cases rs with
 | nil=>rfl
 | cons x rs=>have:=h.tail.2;rw [many_cons] at h0;omega
theorem dropLast_last {α:Type}(rs:List α)(x:α)(h:rs.getLast? = some x):rs=rs.dropLast++[x]:=by
 have hne:rs≠[]:=by rintro rfl;simp at h
 have h2:=List.dropLast_concat_getLast hne
 rw [List.getLast?_eq_some_getLast hne] at h
 have h3:rs.getLast hne=x:=by simpa using h
 rw [h3] at h2
 exact h2.symm
theorem good_bump (rs:List (ByteArray×Nat))(d:ByteArray)(n m:Nat)(h:Good (rs++[(d,n)]))(hm:1≤m):Good (rs++[(d,m)]) :=
 good_snoc rs (d,m) (good_append_left _ _ h) hm fun y hy=>good_meet rs [] y (d,n) h hy
theorem addRun_good (rs:List (ByteArray×Nat))(c:ByteArray)(h:Good rs):Good (addRun rs c)∧spread (addRun rs c)=spread rs++[c]:=by
 unfold addRun
 cases hl:rs.getLast? with
 | none =>
  have:rs=[]:=by simpa using hl
  subst this
  exact ⟨Nat.le_refl _,rfl⟩
 | some x =>
  obtain ⟨d,n⟩:=x
  have e:=dropLast_last rs _ hl
  simp only
  split
  ·rename_i hd
   subst hd
   constructor
   ·refine good_bump _ d n _ (by rw [←e];exact h) (by omega)
   ·rw [spread_append]
    have e2:spread rs=spread rs.dropLast++spread [(d,n)]:=by rw [←spread_append,←e]
    rw [e2,List.append_assoc]
    congr 1
    simp only [spread,List.flatMap_cons,List.flatMap_nil,List.append_nil,List.replicate_succ']
  ·rename_i hd
   refine ⟨good_snoc rs (c,1) h (Nat.le_refl _) fun y hy=>?_,by rw [spread_append];rfl⟩
   rw [hl] at hy
   simp at hy
   subst hy
   exact hd
theorem runsOf_good (l:List ByteArray):Good (runsOf l)∧spread (runsOf l)=l:=by
 induction hn:l.length generalizing l with
 | zero=>have:l=[]:=List.eq_nil_of_length_eq_zero hn;subst this;exact ⟨trivial,rfl⟩
 | succ n ih =>
  have hne:l≠[]:=by rintro rfl;simp at hn
  have e:=(List.dropLast_concat_getLast hne).symm
  obtain ⟨h1,h2⟩:=ih l.dropLast (by rw [List.length_dropLast,hn];rfl)
  have h3:=addRun_good _ (l.getLast hne) h1
  rw [h2] at h3
  rw [e,runsOf_snoc]
  exact h3
theorem many_runsOf (l:List ByteArray):many (runsOf l)=l.length:=by rw [←spread_length,(runsOf_good l).2]
theorem good_unique:∀ (rs rs':List (ByteArray×Nat)),Good rs→Good rs'→spread rs=spread rs'→rs=rs'
 | [],rs',_,h',h=>by
  have:=congrArg List.length h
  rw [spread_length,spread_length] at this
  exact (many_zero h' this.symm).symm
 | x::rs,[],hg,_,h=>by
  have:=congrArg List.length h
  rw [spread_length,spread_length] at this
  exact many_zero hg this
 | (c,n)::rs,(d,m)::rs',hg,hg',h=>by
  obtain ⟨g1,g2⟩:=hg.tail
  obtain ⟨g1',g2'⟩:=hg'.tail
  simp only at g2 g2'
  have hs:∀ (c:ByteArray) n rs,spread ((c,n)::rs)=List.replicate n c++spread rs:=fun c n rs=>rfl
  rw [hs,hs] at h
  have hcd:c=d:=by
   have h0:=congrArg List.head? h
   obtain ⟨n,rfl⟩:∃ k,n=k+1:=⟨n-1,by omega⟩
   obtain ⟨m,rfl⟩:∃ k,m=k+1:=⟨m-1,by omega⟩
   simpa [List.replicate_succ] using h0
  subst hcd
  have aux:∀ (n m:Nat) (rs rs':List (ByteArray×Nat)),Good ((c,1)::rs)→Good rs'→n < m→List.replicate n c++spread rs=List.replicate m c++spread rs'→False:=by
   intro n m rs rs' hg hg' hlt h
   obtain ⟨k,rfl⟩:∃ k,m=n+(k+1):=⟨m-n-1,by omega⟩
   rw [←List.replicate_append_replicate,List.append_assoc] at h
   have h:=List.append_cancel_left h
   cases rs with
   | nil=>simp [spread,List.replicate_succ] at h
   | cons y rs =>
    obtain ⟨e,q⟩:=y
    have hq:1≤q:=hg.2.2.tail.2
    obtain ⟨q,rfl⟩:∃ k,q=k+1:=⟨q-1,by omega⟩
    have h0:=congrArg List.head? h
    rw [hs] at h0
    simp [List.replicate_succ] at h0
    exact hg.2.1 h0.symm
  have hone:∀ n rs,Good ((c,n)::rs)→Good ((c,1)::rs):=by
   intro n rs h
   cases rs with
   | nil=>exact Nat.le_refl _
   | cons y rs=>exact ⟨Nat.le_refl _,h.2.1,h.2.2⟩
  rcases Nat.lt_trichotomy n m with hlt|rfl|hlt
  ·exact (aux n m rs rs' (hone n rs hg) g1' hlt h).elim
  ·have h:=List.append_cancel_left h
   rw [good_unique rs rs' g1 g1' h]
  ·exact (aux m n rs' rs (hone m rs' hg') g1 hlt h.symm).elim
theorem runsOf_spread (rs:List (ByteArray×Nat))(h:Good rs):runsOf (spread rs)=rs:=good_unique _ _ (runsOf_good _).1 h (runsOf_good _).2
def cellP (c:ByteArray):List UInt8:=vp c.size++c.data.toList
def runB (rs:List (ByteArray×Nat)):List UInt8:=rs.flatMap fun x=>cellP x.1++vp x.2
def runsP (l:List ByteArray):List UInt8:=runB (runsOf l)
theorem runB_append (rs tl:List (ByteArray×Nat)):runB (rs++tl)=runB rs++runB tl:=by simp [runB]
theorem runB_cons (x:ByteArray×Nat)(rs:List (ByteArray×Nat)):runB (x::rs)=cellP x.1++(vp x.2++runB rs):=by simp [runB]
def Small (c:ByteArray):Prop:=c.size < 18446744073709551616
theorem vp_front {a b:Nat}(ha:a < 18446744073709551616)(hb:b < 18446744073709551616){r r':List UInt8}(h:vp a++r=vp b++r'):a=b∧r=r':=by
 have h1:=nextNum_vp a ha r
 have h2:=nextNum_vp b hb r'
 rw [h,h2] at h1
 simp only [Option.some.injEq,Prod.mk.injEq] at h1
 obtain ⟨e,_⟩:=h1
 subst e
 exact ⟨rfl,List.append_cancel_left h⟩
theorem cellP_front {c d:ByteArray}(hc:Small c)(hd:Small d){r r':List UInt8}(h:cellP c++r=cellP d++r'):c=d∧r=r':=by
 unfold cellP at h
 rw [List.append_assoc,List.append_assoc] at h
 obtain ⟨e,h⟩:=vp_front hc hd h
 obtain ⟨e1,e2⟩:=List.append_inj h (by rw [ba_len,ba_len,e])
 exact ⟨ba_ext e1,e2⟩
def Fits (rs:List (ByteArray×Nat)):Prop:=∀ x∈rs,Small x.1∧x.2 < 18446744073709551616
theorem many_le {rs:List (ByteArray×Nat)}:∀ x∈rs,x.2≤many rs:=by
 induction rs with
 | nil=>simp
 | cons y rs ih =>
  intro x hx
  rw [many_cons]
  rcases List.mem_cons.1 hx with rfl|hx
  ·omega
  ·have:=ih x hx;omega
theorem runB_prefix:∀ (rs rs':List (ByteArray×Nat))(r r':List UInt8),Good rs→Good rs'→Fits rs→Fits rs'→many rs≤many rs'→runB rs++r=runB rs'++r'→∃ tl,rs'=rs++tl∧r=runB tl++r'
 | [],rs',r,r',_,_,_,_,_,h=>⟨rs',rfl,h⟩
 | x::rs,[],r,r',hg,_,_,_,hm,_=>by
  have:=hg.tail.2
  rw [many_cons,many_nil] at hm
  omega
 | x::rs,y::rs',r,r',hg,hg',hf,hf',hm,h=>by
  rw [runB_cons,runB_cons,List.append_assoc,List.append_assoc,List.append_assoc,List.append_assoc] at h
  obtain ⟨e1,k1⟩:=cellP_front (hf x List.mem_cons_self).1 (hf' y List.mem_cons_self).1 h
  obtain ⟨e2,k2⟩:=vp_front (hf x List.mem_cons_self).2 (hf' y List.mem_cons_self).2 k1
  clear k1 h
  obtain rfl:x=y:=Prod.ext e1 e2
  rw [many_cons,many_cons] at hm
  obtain ⟨tl,e3,e4⟩:=runB_prefix rs rs' r r' hg.tail.1 hg'.tail.1 (fun z hz=>hf z (List.mem_cons_of_mem _ hz)) (fun z hz=>hf' z (List.mem_cons_of_mem _ hz)) (by omega) k2
  exact ⟨tl,by rw [e3];rfl,e4⟩
theorem mem_spread {rs:List (ByteArray×Nat)}(h:Good rs):∀ x∈rs,x.1∈spread rs:=by
 intro x hx
 unfold spread
 rw [List.mem_flatMap]
 exact ⟨x,hx,List.mem_replicate.2 ⟨by have:=h.one_le x hx;omega,rfl⟩⟩
theorem fits_runsOf (l:List ByteArray)(h:∀ c∈l,Small c)(hl:l.length < 18446744073709551616):Fits (runsOf l):=by
 obtain ⟨g,e⟩:=runsOf_good l
 intro x hx
 refine ⟨h _ (by rw [←e];exact mem_spread g x hx),?_⟩
 have:=many_le x hx
 rw [many_runsOf] at this
 omega
theorem runsP_prefix (l l':List ByteArray)(r r':List UInt8)(h1:∀ c∈l,Small c)(h2:∀ c∈l',Small c)(hl:l.length=l'.length)(hb:l.length < 18446744073709551616)(h:runsP l++r=runsP l'++r'):l=l'∧r=r':=by
 obtain ⟨g,e⟩:=runsOf_good l
 obtain ⟨g',e'⟩:=runsOf_good l'
 obtain ⟨tl,e3,e4⟩:=runB_prefix _ _ r r' g g' (fits_runsOf l h1 hb) (fits_runsOf l' h2 (by omega)) (by rw [many_runsOf,many_runsOf];omega) h
 have hz:many tl=0:=by
  have:=congrArg many e3
  rw [many_append,many_runsOf,many_runsOf] at this
  omega
 have ht:tl=[]:=many_zero (good_append_right (runsOf l) tl (by rw [←e3];exact g')) hz
 subst ht
 rw [List.append_nil] at e3
 refine ⟨?_,by simpa [runB] using e4⟩
 rw [←e,←e',e3]
def cellsV (rs:List (ByteArray×Nat)):List Value:=rs.map fun x=>Value.string x.1
def oftenV (rs:List (ByteArray×Nat)):List Value:=rs.map fun x=>Value.int .i64 x.2
theorem cellsV_append (a b:List (ByteArray×Nat)):cellsV (a++b)=cellsV a++cellsV b:=List.map_append
theorem oftenV_append (a b:List (ByteArray×Nat)):oftenV (a++b)=oftenV a++oftenV b:=List.map_append
theorem cellsV_length (a:List (ByteArray×Nat)):(cellsV a).length=a.length:=List.length_map _
theorem oftenV_length (a:List (ByteArray×Nat)):(oftenV a).length=a.length:=List.length_map _
theorem oftenV_set (rs:List (ByteArray×Nat))(x:ByteArray×Nat)(m:Nat):(oftenV (rs++[x])).set rs.length (.int .i64 m)=oftenV (rs++[(x.1,m)]):=by
 rw [oftenV_append,oftenV_append,List.set_append_right _ _ (by rw [oftenV_length];exact Nat.le_refl _),oftenV_length,Nat.sub_self]
 rfl
theorem oftenV_last (rs:List (ByteArray×Nat))(x:ByteArray×Nat):(oftenV (rs++[x]))[rs.length]? = some (.int .i64 x.2):=by
 rw [oftenV_append,List.getElem?_append_right (by rw [oftenV_length];exact Nat.le_refl _),oftenV_length,Nat.sub_self];rfl
theorem cellsV_last (rs:List (ByteArray×Nat))(x:ByteArray×Nat):(cellsV (rs++[x]))[rs.length]? = some (.string x.1):=by
 rw [cellsV_append,List.getElem?_append_right (by rw [cellsV_length];exact Nat.le_refl _),cellsV_length,Nat.sub_self];rfl
theorem addRun_last (rs:List (ByteArray×Nat))(c:ByteArray):∃ m,(addRun rs c).getLast? = some (c,m):=by
 unfold addRun
 cases hl:rs.getLast? with
 | none=>exact ⟨1,rfl⟩
 | some x =>
  obtain ⟨d,n⟩:=x
  simp only
  split
  ·rename_i h;subst h;exact ⟨n+1,by simp⟩
  ·exact ⟨1,by simp⟩
theorem runs_take (l:List ByteArray)(k:Nat)(h:k < l.length):runsOf (l.take (k+1))=addRun (runsOf (l.take k)) l[k]:=by
 rw [take_add l k h,runsOf_snoc]
theorem runs_last (l:List ByteArray)(k:Nat)(h:k < l.length)(h0:0 < k):∃ rs m,runsOf (l.take k)=rs++[(l[k-1],m)]:=by
 obtain ⟨m,hm⟩:=addRun_last (runsOf (l.take (k-1))) l[k-1]
 rw [←runs_take l (k-1) (by omega),show k-1+1=k by omega] at hm
 exact ⟨_,m,dropLast_last _ _ hm⟩
theorem runs_first (l:List ByteArray)(h:0 < l.length):runsOf (l.take (0+1))=runsOf (l.take 0)++[(l[0],1)]:=by
 rw [runs_take l 0 h,List.take_zero];rfl
theorem runs_new (l:List ByteArray)(k:Nat)(h:k < l.length)(h0:0 < k)(hn:l[k]≠l[k-1]):runsOf (l.take (k+1))=runsOf (l.take k)++[(l[k],1)]:=by
 obtain ⟨rs,m,e⟩:=runs_last l k h h0
 rw [runs_take l k h,e]
 unfold addRun
 simp only [List.getLast?_append,List.getLast?_singleton,Option.some_or]
 rw [if_neg (Ne.symm hn)]
theorem runs_same (l:List ByteArray)(k:Nat)(h:k < l.length)(h0:0 < k)(hn:l[k]=l[k-1]):∃ rs m,runsOf (l.take k)=rs++[(l[k],m)]∧runsOf (l.take (k+1))=rs++[(l[k],m+1)]∧m≤l.length:=by
 obtain ⟨rs,m,e⟩:=runs_last l k h h0
 refine ⟨rs,m,by rw [e,hn],?_,?_⟩
 ·rw [runs_take l k h,e]
  unfold addRun
  simp only [List.getLast?_append,List.getLast?_singleton,Option.some_or]
  rw [if_pos hn.symm,hn]
  simp
 ·have h1:m≤many (runsOf (l.take k)):=many_le (l[k-1],m) (by rw [e];simp)
  rw [many_runsOf,List.length_take] at h1
  omega
theorem runs_le (l:List ByteArray):(runsOf l).length≤l.length:=by
 have h1:∀ rs:List (ByteArray×Nat),Good rs→rs.length≤many rs:=by
  intro rs
  induction rs with
  | nil=>intro _;exact Nat.le_refl _
  | cons x rs ih=>intro h;have:=ih h.tail.1;have:=h.tail.2;rw [many_cons,List.length_cons];omega
 have:=h1 _ (runsOf_good l).1
 rwa [many_runsOf] at this
def OwnRuns (w:World)(B:Nat)(c n:Value)(rs:List (ByteArray×Nat)):Prop :=
 Own w B 1 c rs.length (cellsV rs)∧Own w B 1 n rs.length (oftenV rs)∧∀ k,c.ownBlock=some k→n.ownBlock≠some k
theorem OwnRuns.nil_ (w:World)(B:Nat):OwnRuns w B (.slice none 0 0) (.slice none 0 0) []:=⟨Own.nil_ _ _ _,Own.nil_ _ _ _,fun k hk=>by simp [Value.ownBlock] at hk⟩
def GivesRuns (P:Program)(f:FuncId)(args:Array Value)(w:World)(rs:List (ByteArray×Nat)):Prop :=
 Calls P f args w fun e w'=>∃ c n,e=.returned (.tuple #[c,n])∧OwnRuns w' w.heap.size c n rs∧Below w.heap.size w w'
theorem Tryz.infoS9:(Tryz.prog.info? 9).map (fun i=>(i.zero,i.size,i.bytes))=some (some (.string ⟨#[]⟩),1,16):=by kernel_rfl
theorem Tryz.infoI3:(Tryz.prog.info? 3).map (fun i=>(i.zero,i.size,i.bytes))=some (some (.int .i64 0),1,8):=by kernel_rfl
theorem cellP_B (c:ByteArray):printB c.size++c=mkB (cellP c):=bytes_ext (by rw [data_append,print_data];rfl)
theorem cellP_length (c:ByteArray):(cellP c).length≤10+c.size∨¬c.size < 18446744073709551616:=by
 by_cases h:c.size < 18446744073709551616
 ·left
  unfold cellP
  rw [List.length_append,ba_len]
  have:=vp_len_10 h
  omega
 ·exact .inr h
theorem runs_cell_calls (c:ByteArray)(hc:c.size≤140737488351232):Gives Tryz.prog 165 #[.string c] (.string (mkB (cellP c))):=by
 intro w
 obtain ⟨hb,hB⟩:=start w
 have HP:=Lib.hid (cellP_B c)
 have hw:IntKind.u64.wrap (c.size:Int)=(c.size:Int):=wrap_lt _ (by omega)
 have p1:=Lib.hid (print_calls c.size (by omega))
 have hz:(printB c.size).size≤10:=by rw [print_len];exact vp_len_10 (by omega)
 go_enter Tryz.func165,Tryz.ntmps165
 go_wp2_with (go_at_call 109;refine p1.out.step (w0:=w) (B:=w.heap.size) hb hB ?_;clear hb hB;intro wb hb hB)
 go_ret
 exact ⟨ret_str HP.out,hb⟩
theorem ref_runs_cell_calls (c:ByteArray)(hc:c.size≤140737488351232):Gives Tryz.prog 154 #[.string c] (.string (mkB (cellP c))):=by
 intro w
 obtain ⟨hb,hB⟩:=start w
 have HP:=Lib.hid (cellP_B c)
 have hw:IntKind.u64.wrap (c.size:Int)=(c.size:Int):=wrap_lt _ (by omega)
 have p1:=Lib.hid (ref_print_calls c.size (by omega))
 have hz:(printB c.size).size≤10:=by rw [print_len];exact vp_len_10 (by omega)
 go_enter Tryz.func154,Tryz.ntmps154
 go_wp2_with (go_at_call 98;refine p1.out.step (w0:=w) (B:=w.heap.size) hb hB ?_;clear hb hB;intro wb hb hB)
 go_ret
 exact ⟨ret_str HP.out,hb⟩
def cellT (s:ByteArray)(bad:Bool):ByteArray×ByteArray×Bool:=textT (numT s bad 1048576).2.1 (numT s bad 1048576).2.2 (numT s bad 1048576).1
def cellOk (s:ByteArray)(bad:Bool):Bool:=!(cellT s bad).2.2&&rightB (cellT s bad).1
theorem cellT_size (s:ByteArray)(bad:Bool):(cellT s bad).2.1.size≤s.size:=Nat.le_trans (textT_size _ _ _) (numT_size _ _ _)
theorem cellT_good {s:ByteArray}{bad:Bool}(h:(cellT s bad).2.2=false):bad=false∧(cellT s bad).1.size≤1048576∧s.data.toList=cellP (cellT s bad).1++(cellT s bad).2.1.data.toList:=by
 obtain ⟨h1,h2,h3⟩:=textT_good' h
 obtain ⟨h4,h5⟩:=numT_good h1
 have h6:=numT_le s bad 1048576 (by decide)
 have h7:(cellT s bad).1.size=(numT s bad 1048576).1:=h2
 refine ⟨h4,by omega,?_⟩
 have e:s.data.toList=vp (cellT s bad).1.size++((cellT s bad).1.data.toList++(cellT s bad).2.1.data.toList):=by
  rw [h7,←data_append,←print_data,←data_append]
  exact congrArg (fun x=>x.data.toList) (h5.trans (congrArg (printB _++·) h3))
 rw [e];unfold cellP;rw [List.append_assoc]
theorem cellT_at (c:ByteArray)(hc:c.size≤1048576)(s:ByteArray)(r:List UInt8)(h:s.data.toList=cellP c++r):cellT s false=(c,mkB r,false):=by
 have es:s=printB c.size++(c++mkB r):=by
  apply bytes_ext
  rw [h,data_append,data_append,print_data,mkB_data]
  unfold cellP
  rw [List.append_assoc]
 have e1:=numT_print c.size (by omega) (c++mkB r) 1048576 (by omega)
 unfold cellT
 rw [es,e1]
 exact textT_append c (mkB r)
theorem rightB_size {c:ByteArray}(h:rightB c=true):c.size≤17:=by
 unfold rightB at h
 simp only [Bool.or_eq_true,Bool.and_eq_true,beq_iff_eq,decide_eq_true_eq] at h
 rcases h with ((h|h)|h)|h
 ·rw [ByteArray.toList_eq,List.isEmpty_iff] at h
  have:=congrArg List.length h
  rw [ba_len] at this
  rw [this];simp
 ·omega
 ·omega
 ·exact h.2
def readT (s:ByteArray)(bad:Bool):ByteArray×ByteArray×Bool:=if cellOk s bad then ((cellT s bad).1,(cellT s bad).2.1,false) else (⟨#[]⟩,s,true)
def readRT (s:ByteArray)(bad:Bool):ByteArray×ByteArray×Bool:=if cellOk s bad then ((cellT s bad).1,(cellT s bad).2.1,false) else (⟨#[]⟩,(cellT s bad).2.1,true)
set_option maxHeartbeats 1000000 in
set_option maxRecDepth 100000 in
theorem readCell_yes (b:Nat)(s r1 r2 c:ByteArray)(bad b1:Bool)(n:Nat)(hr:rightB c=true)
  (T1:∀ b,Takes Tryz.prog 154 185 [.int .u64 1048576] b s bad (.int .u64 n) r1 b1) (T2:∀ b,Takes Tryz.prog 154 190 [.int .u64 n] b r1 b1 (.string c) r2 false) :
  Takes Tryz.prog 154 205 [] b s bad (.string c) r2 false:=by
 intro w hT
 have hc0:=hT.c0
 have hc1:=hT.c1
 have hbw:=hT.lt
 have H1:=Lib.hid (T1 w.heap.size)
 have H2:=Lib.hid (T2 w.heap.size)
 have HR:=Lib.hid (right_calls c)
 rw [hr] at HR
 clear T1 T2
 go_enter Tryz.func205,Tryz.ntmps205
 go_wp2_with (first|(go_at_call 185;refine H1.out.step (box_tape w s bad _) (grown_refl _ _) ?_;intro w1 hA hg)|(go_at_call 190;refine H2.out.step hA hg ?_;clear hA hg hc0 hc1;intro w2 hA hg;have hb:=boxed_below hg;replace hT:=hT.kept hb;clear hg;have c0:=hT.c0;have c1:=hT.c1;have f0:=hT.f0 0;have f1:=hT.f0 1;have a0:=hA.c0;have a1:=hA.c1)|(go_at_call 71;refine HR.out.stepB (w0:=w) (B:=w.heap.size) hb hb.size ?_;clear hb;intro w3 hb _ hk;clear c0 c1 f0 f1 a0 a1;replace hT:=hT.kept hk;replace hA:=hA.kept hk;have c0:=hT.c0;have c1:=hT.c1;have f0:=hT.f0 0;have f1:=hT.f0 1;have a0:=hA.c0;have a1:=hA.c1))
 go_ret
 exact ⟨rfl,(hT.set0 _).set1 _,grown_set (grown_set (grown_below hb _) _ _) _ _⟩
set_option maxHeartbeats 1000000 in
set_option maxRecDepth 100000 in
theorem readCell_no (b:Nat)(s r1 r2 c:ByteArray)(bad b1:Bool)(n:Nat)(hr:rightB c=false)
  (T1:∀ b,Takes Tryz.prog 154 185 [.int .u64 1048576] b s bad (.int .u64 n) r1 b1) (T2:∀ b,Takes Tryz.prog 154 190 [.int .u64 n] b r1 b1 (.string c) r2 false) :
  Takes Tryz.prog 154 205 [] b s bad (.string ⟨#[]⟩) s true:=by
 intro w hT
 have hc0:=hT.c0
 have hc1:=hT.c1
 have hbw:=hT.lt
 have H1:=Lib.hid (T1 w.heap.size)
 have H2:=Lib.hid (T2 w.heap.size)
 have HR:=Lib.hid (right_calls c)
 rw [hr] at HR
 clear T1 T2
 go_enter Tryz.func205,Tryz.ntmps205
 go_wp2_with (first|(go_at_call 185;refine H1.out.step (box_tape w s bad _) (grown_refl _ _) ?_;intro w1 hA hg)|(go_at_call 190;refine H2.out.step hA hg ?_;clear hA hg hc0 hc1;intro w2 hA hg;have hb:=boxed_below hg;replace hT:=hT.kept hb;clear hg;have c0:=hT.c0;have c1:=hT.c1;have f0:=hT.f0 0;have f1:=hT.f0 1;have a0:=hA.c0;have a1:=hA.c1)|(go_at_call 71;refine HR.out.stepB (w0:=w) (B:=w.heap.size) hb hb.size ?_;clear hb;intro w3 hb _ hk;clear c0 c1 f0 f1 a0 a1;replace hT:=hT.kept hk;replace hA:=hA.kept hk;have c0:=hT.c0;have c1:=hT.c1;have f0:=hT.f0 0;have f1:=hT.f0 1;have a0:=hA.c0;have a1:=hA.c1))
 go_ret
 exact ⟨rfl,hT.set1 _,grown_set (grown_below hb _) _ _⟩
set_option maxHeartbeats 1000000 in
set_option maxRecDepth 100000 in
theorem readCell_bad (b:Nat)(s r1 r2 c:ByteArray)(bad b1:Bool)(n:Nat)
  (T1:∀ b,Takes Tryz.prog 154 185 [.int .u64 1048576] b s bad (.int .u64 n) r1 b1) (T2:∀ b,Takes Tryz.prog 154 190 [.int .u64 n] b r1 b1 (.string c) r2 true) :
  Takes Tryz.prog 154 205 [] b s bad (.string ⟨#[]⟩) s true:=by
 intro w hT
 have hc0:=hT.c0
 have hc1:=hT.c1
 have hbw:=hT.lt
 have H1:=Lib.hid (T1 w.heap.size)
 have H2:=Lib.hid (T2 w.heap.size)
 clear T1 T2
 go_enter Tryz.func205,Tryz.ntmps205
 go_wp2_with (first|(go_at_call 185;refine H1.out.step (box_tape w s bad _) (grown_refl _ _) ?_;intro w1 hA hg)|(go_at_call 190;refine H2.out.step hA hg ?_;clear hA hg hc0 hc1;intro w2 hA hg;have hb:=boxed_below hg;replace hT:=hT.kept hb;clear hg;have c0:=hT.c0;have c1:=hT.c1;have f0:=hT.f0 0;have f1:=hT.f0 1;have a0:=hA.c0;have a1:=hA.c1))
 go_ret
 exact ⟨rfl,hT.set1 _,grown_set (grown_below hb _) _ _⟩
theorem readCell_calls (b:Nat)(s:ByteArray)(bad:Bool)(hs:s.size≤9223372036854775807) :
  Takes Tryz.prog 154 205 [] b s bad (.string (readT s bad).1) (readT s bad).2.1 (readT s bad).2.2:=by
 have T1:=fun b=>tnum_calls b s bad 1048576
 have T2:=fun b=>ttext_calls b (numT s bad 1048576).2.1 (numT s bad 1048576).2.2 (numT s bad 1048576).1 (Nat.le_trans (numT_size s bad 1048576) hs)
 have hok:cellOk s bad=(!(cellT s bad).2.2&&rightB (cellT s bad).1):=rfl
 have T2':∀ b,Takes Tryz.prog 154 190 [.int .u64 (numT s bad 1048576).1] b (numT s bad 1048576).2.1 (numT s bad 1048576).2.2 (.string (cellT s bad).1) (cellT s bad).2.1 (cellT s bad).2.2:=T2
 clear T2
 unfold readT
 generalize cellT s bad=x at *
 obtain ⟨c,r,b2⟩:=x
 cases b2 with
 | true=>rw [hok];exact readCell_bad b s _ r c bad _ _ T1 T2'
 | false =>
  cases hr:rightB c with
  | true=>rw [hok];simp only [hr];exact readCell_yes b s _ r c bad _ _ hr T1 T2'
  | false=>rw [hok];simp only [hr];exact readCell_no b s _ r c bad _ _ hr T1 T2'
def RunsAt (s:List UInt8)(many:Int)(l:List ByteArray)(r:List UInt8):Prop :=
 0≤many∧many≤4096∧(l.length:Int)=many∧(∀ c∈l,rightB c=true)∧s=runsP l++r
theorem right_small {c:ByteArray}(h:rightB c=true):Small c:=by have:=rightB_size h;unfold Small;omega
theorem RunsAt.same {s:List UInt8}{many:Int}{l l':List ByteArray}{r r':List UInt8}(h:RunsAt s many l r)(h':RunsAt s many l' r'):l=l'∧r=r':=by
 obtain ⟨a1,a2,a3,a4,a5⟩:=h
 obtain ⟨b1,b2,b3,b4,b5⟩:=h'
 exact runsP_prefix l l' r r' (fun c hc=>right_small (a4 c hc)) (fun c hc=>right_small (b4 c hc)) (by omega) (by omega) (a5.symm.trans b5)
structure Stage (s:ByteArray) (M:Nat) (rs:List (ByteArray×Nat)) (cur:ByteArray):Prop where
 good:Good rs
 right:∀ x∈rs,rightB x.1=true
 le:many rs≤M
 text:s.data.toList=runB rs++cur.data.toList
 size:cur.size≤s.size
theorem Stage.first (s:ByteArray)(M:Nat):Stage s M [] s:=⟨trivial,by simp,Nat.zero_le _,rfl,Nat.le_refl _⟩
theorem Stage.last {s:ByteArray}{M:Nat}{rs:List (ByteArray×Nat)}{cur:ByteArray}(h:Stage s M rs cur)(hM:M≤4096)(hm:many rs=M):RunsAt s.data.toList M (spread rs) cur.data.toList:=by
 refine ⟨by omega,by omega,by rw [spread_length,hm],?_,?_⟩
 ·intro c hc
  unfold spread at hc
  rw [List.mem_flatMap] at hc
  obtain ⟨x,hx,hc⟩:=hc
  rw [(List.mem_replicate.1 hc).2]
  exact h.right x hx
 ·unfold runsP
  rw [runsOf_spread _ h.good];exact h.text
def ReadAs (cur:ByteArray)(X:ByteArray×ByteArray×Bool):Prop:=(cellOk cur false=true→X=((cellT cur false).1,(cellT cur false).2.1,false))∧(cellOk cur false=false→X.2.2=true)
theorem readT_as (cur:ByteArray):ReadAs cur (readT cur false):=by
 unfold readT
 exact ⟨fun h=>by rw [if_pos h],fun h=>by rw [if_neg (by rw [h];decide)]⟩
theorem numT_pos {s:ByteArray}{bad:Bool}{m:Int}(h:(numT s bad m).1≠0):(numT s bad m).2.2=false:=by
 unfold numT at h ⊢
 cases bad with
 | true=>exact absurd rfl h
 | false =>
  cases hq:nextNum s.data.toList with
  | none=>rw [hq] at h;exact absurd rfl h
  | some p =>
   obtain ⟨n,k⟩:=p
   rw [hq] at h
   simp only [Bool.false_eq_true,if_false] at h ⊢
   split at h
   ·rename_i hm;rw [if_pos hm]
   ·exact absurd rfl h
theorem cellOk_good {cur:ByteArray}(h:cellOk cur false=true):(cellT cur false).2.2=false∧rightB (cellT cur false).1=true:=by
 unfold cellOk at h
 rw [Bool.and_eq_true,Bool.not_eq_true'] at h
 exact h
theorem Stage.next {s:ByteArray}{M:Nat}{rs:List (ByteArray×Nat)}{cur:ByteArray}{X:ByteArray×ByteArray×Bool}(h:Stage s M rs cur)(hX:ReadAs cur X)
  (hn:(numT X.2.1 X.2.2 ((M-many rs:Nat):Int)).1≠0) (hl:∀ y,rs.getLast? = some y→y.1≠X.1) :
  X.2.2=false∧(numT X.2.1 X.2.2 ((M-many rs:Nat):Int)).2.2=false∧(numT X.2.1 X.2.2 ((M-many rs:Nat):Int)).1≤M-many rs ∧
  Stage s M (rs++[(X.1,(numT X.2.1 X.2.2 ((M-many rs:Nat):Int)).1)]) (numT X.2.1 X.2.2 ((M-many rs:Nat):Int)).2.1:=by
 have g1:=numT_pos hn
 obtain ⟨g2,g3⟩:=numT_good g1
 have g4:=numT_le X.2.1 X.2.2 ((M-many rs:Nat):Int) (by omega)
 have g5:=numT_size X.2.1 X.2.2 ((M-many rs:Nat):Int)
 generalize numT X.2.1 X.2.2 ((M-many rs:Nat):Int)=Y at *
 obtain ⟨n,r,b⟩:=Y
 simp only at g1 g3 g4 g5 hn ⊢
 have hok:cellOk cur false=true:=by
  cases hc:cellOk cur false with
  | true=>rfl
  | false=>rw [hX.2 hc] at g2;exact absurd g2 (by decide)
 obtain ⟨c1,c2⟩:=cellOk_good hok
 obtain ⟨_,c3,c4⟩:=cellT_good c1
 have c5:=cellT_size cur false
 rw [hX.1 hok] at g3 g5 hl ⊢
 simp only at g3 g5 hl ⊢
 refine ⟨trivial,g1,by omega,⟨good_snoc rs _ h.good (by show 1≤n;omega) hl,?_,?_,?_,?_⟩⟩
 ·intro x hx
  rcases List.mem_append.1 hx with hx|hx
  ·exact h.right x hx
  ·rw [List.mem_singleton] at hx;rw [hx];exact c2
 ·have:=h.le;rw [many_append,many_cons,many_nil];simp only;omega
 ·rw [runB_append,h.text,c4,List.append_assoc]
  congr 1
  rw [show runB [((cellT cur false).1,n)]=cellP (cellT cur false).1++vp n by simp [runB],List.append_assoc]
  congr 1
  have:=congrArg (fun x=>x.data.toList) g3
  simp only [data_append,print_data] at this
  exact this
 ·have:=h.size;omega
theorem Stage.none {s:ByteArray}{M:Nat}{rs:List (ByteArray×Nat)}{cur:ByteArray}{X:ByteArray×ByteArray×Bool}(h:Stage s M rs cur)(hX:ReadAs cur X)(hlt:many rs < M)
  (hn:(numT X.2.1 X.2.2 ((M-many rs:Nat):Int)).1=0∨∃ y,rs.getLast? = some y∧y.1=X.1):¬∃ l r,RunsAt s.data.toList M l r:=by
 rintro ⟨l,r,a1,a2,a3,a4,a5⟩
 obtain ⟨g,e⟩:=runsOf_good l
 have hm:=many_runsOf l
 have hf1:Fits rs:=fun x hx=>⟨right_small (h.right x hx),by have:=many_le x hx;omega⟩
 obtain ⟨tl,e1,e2⟩:=runB_prefix rs (runsOf l) cur.data.toList r h.good g hf1 (fits_runsOf l (fun c hc=>right_small (a4 c hc)) (by omega)) (by omega) (h.text.symm.trans a5)
 have htl:=congrArg many e1
 rw [many_append,hm] at htl
 cases tl with
 | nil=>rw [many_nil] at htl;omega
 | cons x tl =>
  rw [many_cons] at htl
  have hx:x∈runsOf l:=by rw [e1];simp
  have hxr:rightB x.1=true:=a4 _ (by have:=mem_spread g x hx;rwa [e] at this)
  have hx1:=g.one_le x hx
  have hsz:=rightB_size hxr
  rw [runB_cons] at e2
  have k1:=cellT_at x.1 (by omega) cur (vp x.2++runB tl++r) (by rw [e2];simp only [List.append_assoc])
  have hok:cellOk cur false=true:=by unfold cellOk;rw [k1];simp [hxr]
  have hX':=hX.1 hok
  rw [k1] at hX'
  simp only at hX'
  rw [hX'] at hn
  simp only at hn
  have k2:mkB (vp x.2++runB tl++r)=printB x.2++mkB (runB tl++r):=bytes_ext (by rw [mkB_data,data_append,print_data,mkB_data,List.append_assoc])
  have k3:=numT_print x.2 (by omega) (mkB (runB tl++r)) ((M-many rs:Nat):Int) (by omega)
  rw [k2,k3] at hn
  simp only at hn
  rcases hn with hn | ⟨y,hy,hy2⟩
  ·omega
  ·exact good_meet rs tl y x (by rw [←e1];exact g) hy hy2
end Go.Proofs.YtafmbnafibahkaaGreat
