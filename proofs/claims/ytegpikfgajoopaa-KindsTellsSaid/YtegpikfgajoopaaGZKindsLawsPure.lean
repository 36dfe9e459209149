/- What layer 16's laws stand on: plain facts; no program. -/
import Derived.Test.YtegpikfgajoopaaGBlockUnder
import Derived.Test.YtegpikfgajoopaaGZKindsPure
import Derived.Test.YtegpikfgajoopaaGZTermKit
namespace Go.Proofs.Ytegpikfgajoopaa
open Go Go.RowKit
theorem topK_err {cols:List (Int×Bool)}{op col:Int}{cell:ByteArray}{a b:Int}:(topK cols op col cell a b).2≠0→(topK cols op col cell a b).1=0∧((topK cols op col cell a b).2=1∨(topK cols op col cell a b).2=5):=by
 unfold topK
 repeat' split
 all_goals simp
theorem ofK_err {cols:List (Int×Bool)}(t:Trm):(ofK cols t).2≠0→(ofK cols t).1=0∧((ofK cols t).2=1∨(ofK cols t).2=5):=by
 refine Trm.ind (P:=fun t=>(ofK cols t).2≠0→(ofK cols t).1=0∧((ofK cols t).2=1∨(ofK cols t).2=5)) (fun t ih=>?_) t
 obtain ⟨op,col,cell,ks⟩:=t
 have hks:∀ (ks:List Trm),(∀ k∈ks,(ofK cols k).2≠0→(ofK cols k).1=0∧((ofK cols k).2=1∨(ofK cols k).2=5))→∀ e,ofKs cols ks=.inl e→e=1∨e=5:=by
  intro ks
  induction ks with
  | nil=>intro _ e he;rw [ofKs] at he;exact absurd he (by simp)
  | cons k ks ih2 =>
   intro hk e he
   rw [ofKs] at he
   have h1:=hk k (List.mem_cons_self ..)
   rcases hok:ofK cols k with ⟨u,e1⟩
   rw [hok] at he h1
   dsimp only at he h1
   by_cases h0:e1=0
   ·rw [if_pos h0] at he
    cases hr:ofKs cols ks with
    | inl e2 =>
     rw [hr] at he
     rw [←Sum.inl.inj he]
     exact ih2 (fun k' hk'=>hk k' (List.mem_cons_of_mem _ hk')) e2 hr
    | inr l=>rw [hr] at he;exact absurd he (by simp)
   ·rw [if_neg h0] at he
    rw [←Sum.inl.inj he]
    exact (h1 h0).2
 rw [ofK_eq]
 by_cases hn:(ks.length:Int)=manyN op
 ·rw [if_pos hn]
  cases hr:ofKs cols ks with
  | inl e=>exact fun _=>⟨rfl,hks ks (fun k hk=>ih k hk) e hr⟩
  | inr l=>exact topK_err
 ·rw [if_neg hn]
  exact fun _=>⟨rfl,.inl rfl⟩
theorem kindK_err {cols:List (Int×Bool)}{t:Trm}(h:(kindK cols t).2≠0):(kindK cols t).1=0∧whereK cols t=(kindK cols t).2:=by
 refine ⟨?_,by unfold whereK;rw [if_neg h]⟩
 unfold kindK at h ⊢
 split
 ·rfl
 ·rename_i hs
  rw [if_neg hs] at h
  exact (ofK_err t h).1
theorem whereK_ok {cols:List (Int×Bool)}{t:Trm}(h:(kindK cols t).2=0):(whereK cols t==0)=((kindK cols t).1==98||(kindK cols t).1==0):=by
 unfold whereK
 rw [if_pos h]
 unfold fitK
 by_cases h1:(kindK cols t).1=98
 ·rw [h1];rfl
 ·by_cases h2:(kindK cols t).1=0
  ·rw [h2];rfl
  ·have d1:((kindK cols t).1==98)=false:=by simp [h1]
   have d2:((kindK cols t).1==0)=false:=by simp [h2]
   rw [d1,d2,decide_eq_false h1,decide_eq_false h2]
   rfl
theorem opC_bool {row:List ByteArray}{op col:Int}{cell a b:ByteArray}(h1:¬op=99)(h2:¬op=107):opC row op col cell a b=noC∨∃ y,opC row op col cell a b=boolCell y:=by
 have hb:∀ a b,bothC a b=noC∨∃ y,bothC a b=boolCell y:=fun a b=>by
  unfold bothC
  split
  ·exact .inr ⟨false,rfl⟩
  ·split
   ·exact .inr ⟨true,rfl⟩
   ·exact .inl rfl
 have hn:∀ a,notC a=noC∨∃ y,notC a=boolCell y:=fun a=>by
  unfold notC
  split
  ·exact .inl rfl
  ·exact .inr ⟨_,rfl⟩
 unfold opC
 rw [if_neg h1,if_neg h2]
 repeat' split
 all_goals first|exact .inl rfl|exact .inr ⟨_,rfl⟩|exact hb _ _|exact hn _
theorem rightB_no:rightB noC=true:=by decide +kernel
theorem rightB_bool (y:Bool):rightB (boolCell y)=true∧kindI (boolCell y)=98:=by cases y <;> decide +kernel
theorem rowN_at {cols:List (Int×Bool)}{row:List ByteArray}(h:rowN cols row=0){c:Nat}(hc:c < cols.length):∃ hr:c < row.length,row[c]=noC∨(rightB row[c]=true∧kindI row[c]=cols[c].1):=by
 unfold rowN at h
 by_cases hl:row.length=cols.length
 ·rw [if_pos hl] at h
  cases hf:fitsL cols row with
  | false=>rw [hf] at h;exact absurd h (by decide)
  | true =>
   unfold fitsL at hf
   rw [List.all_eq_true] at hf
   have hz:c < (cols.zip row).length:=by rw [List.length_zip];omega
   have:=hf _ (List.getElem_mem hz)
   rw [List.getElem_zip] at this
   unfold fitsC at this
   refine ⟨by omega,?_⟩
   rcases no_cases row[c] with ⟨h0,_,_⟩ | ⟨h0,h1,_⟩
   ·exact .inl h0
   ·rw [h1,if_neg (by decide),Bool.and_eq_true,beq_iff_eq] at this
    exact .inr this
 ·rw [if_neg hl] at h
  exact absurd h (by decide)
theorem ofKs_err {cols:List (Int×Bool)}:∀ (ks:List Trm)(e:Int),ofKs cols ks=.inl e→e=1∨e=5
 | [],e,he=>by rw [ofKs] at he;exact absurd he (by simp)
 | k::ks,e,he=>by
  rw [ofKs] at he
  have h1:=ofK_err (cols:=cols) k
  rcases hok:ofK cols k with ⟨u,e1⟩
  rw [hok] at he h1
  dsimp only at he h1
  by_cases h0:e1=0
  ·rw [if_pos h0] at he
   cases hr:ofKs cols ks with
   | inl e2 =>
    rw [hr] at he
    rw [←Sum.inl.inj he]
    exact ofKs_err ks e2 hr
   | inr l=>rw [hr] at he;exact absurd he (by simp)
  ·rw [if_neg h0] at he
   rw [←Sum.inl.inj he]
   exact (h1 h0).2
theorem ofK_ok {cols:List (Int×Bool)}{op col:Int}{cell:ByteArray}{ks:List Trm}(h:(ofK cols (.mk op col cell ks)).2=0):∃ l,(ks.length:Int)=manyN op∧ofKs cols ks=.inr l∧ofK cols (.mk op col cell ks)=topK cols op col cell (l.getD 0 0) (l.getD 1 0):=by
 rw [ofK_eq] at h ⊢
 by_cases hn:(ks.length:Int)=manyN op
 ·rw [if_pos hn] at h ⊢
  cases hr:ofKs cols ks with
  | inl e =>
   rw [hr] at h
   dsimp only at h
   have:=ofKs_err ks e hr
   omega
  | inr l=>exact ⟨l,hn,rfl,rfl⟩
 ·rw [if_neg hn] at h
  exact absurd h (by decide)
theorem topK_bool {cols:List (Int×Bool)}{op col:Int}{cell:ByteArray}{a b:Int}(h1:¬op=99)(h2:¬op=107)(h:(topK cols op col cell a b).2=0):(topK cols op col cell a b).1=98:=by
 unfold topK at h ⊢
 rw [if_neg h1,if_neg h2] at h ⊢
 repeat' split
 all_goals first|rfl|(exfalso;simp_all)
theorem kind_holds {cols:List (Int×Bool)}{row:List ByteArray}(hrow:rowN cols row=0)(t:Trm)(h:(ofK cols t).2=0):rightB (evalT row t)=true∧(evalT row t=noC∨kindI (evalT row t)=(ofK cols t).1):=by
 obtain ⟨op,col,cell,ks⟩:=t
 obtain ⟨l,hn,hr,he⟩:=ofK_ok h
 rw [he] at h ⊢
 rw [evalT]
 by_cases h99:op=99
 ·subst h99
  have e1:∀ a b,topK cols 99 col cell a b=if 0≤col∧col < cols.length then ((cols.getD col.toNat (0,false)).1,0) else (0,1):=fun a b=>if_pos rfl
  have e2:∀ a b,opC row 99 col cell a b=atC row col:=fun a b=>if_pos rfl
  rw [e1] at h ⊢
  rw [e2]
  by_cases hc:0≤col∧col < cols.length
  ·rw [if_pos hc] at h ⊢
   obtain ⟨c,rfl⟩:∃ c:Nat,col=c:=⟨col.toNat,by omega⟩
   have hcc:c < cols.length:=by omega
   obtain ⟨hrl,hv⟩:=rowN_at hrow hcc
   have e3:atC row (c:Int)=row[c]:=by
    unfold atC
    rw [if_pos ⟨by omega,by omega⟩,List.getD_eq_getElem?_getD,Int.toNat_natCast,List.getElem?_eq_getElem hrl]
    rfl
   rw [e3,List.getD_eq_getElem?_getD,Int.toNat_natCast,List.getElem?_eq_getElem hcc,Option.getD_some]
   rcases hv with hv | ⟨hv1,hv2⟩
   ·rw [hv];exact ⟨rightB_no,.inl rfl⟩
   ·exact ⟨hv1,.inr hv2⟩
  ·rw [if_neg hc] at h
   exact absurd h (by decide)
 ·by_cases h107:op=107
  ·subst h107
   have e1:∀ a b,topK cols 107 col cell a b=if rightB cell=true then (kindI cell,0) else (0,1):=fun a b=>by simp [topK]
   have e2:∀ a b,opC row 107 col cell a b=cell:=fun a b=>by simp [opC]
   rw [e1] at h ⊢
   rw [e2]
   cases hrb:rightB cell with
   | true=>rw [if_pos rfl];exact ⟨rfl,.inr rfl⟩
   | false=>rw [hrb,if_neg (by decide)] at h;exact absurd h (by decide)
  ·rw [topK_bool h99 h107 h]
   rcases opC_bool (row:=row) (col:=col) (cell:=cell) (a:=(evalTs row ks).getD 0 noC) (b:=(evalTs row ks).getD 1 noC) h99 h107 with hv | ⟨y,hv⟩
   ·rw [hv];exact ⟨rightB_no,.inl rfl⟩
   ·rw [hv];exact ⟨(rightB_bool y).1,.inr (rightB_bool y).2⟩
theorem ofK_two {cols:List (Int×Bool)}{op:Int}(h:manyN op=2)(a b:Trm):ofK cols (twoT15 op a b)=if (ofK cols a).2=0 then (if (ofK cols b).2=0 then topK cols op 0 noC (ofK cols a).1 (ofK cols b).1 else (0,(ofK cols b).2)) else (0,(ofK cols a).2):=by
 rw [twoT15,ofK_eq,if_pos (by rw [h];rfl),ofKs,ofKs_one]
 rcases ofK cols a with ⟨u,e⟩
 rcases ofK cols b with ⟨v,f⟩
 dsimp only
 by_cases h1:e=0
 ·rw [if_pos h1,if_pos h1]
  by_cases h2:f=0
  ·rw [if_pos h2,if_pos h2];rfl
  ·rw [if_neg h2,if_neg h2]
 ·rw [if_neg h1,if_neg h1]
theorem ofK_one {cols:List (Int×Bool)}{op:Int}(h:manyN op=1)(a:Trm):ofK cols (oneT15 op a)=if (ofK cols a).2=0 then topK cols op 0 noC (ofK cols a).1 0 else (0,(ofK cols a).2):=by
 rw [oneT15,ofK_eq,if_pos (by rw [h];rfl),ofKs_one]
 rcases ofK cols a with ⟨u,e⟩
 dsimp only
 by_cases h1:e=0
 ·rw [if_pos h1,if_pos h1];rfl
 ·rw [if_neg h1,if_neg h1]
theorem fitK_beq (a b:Int):fitK a b=((a==b)||((a==0)||(b==0))):=rfl
theorem fitK_yes (a:Int):fitK a 98=((a==98)||(a==0)):=by rw [fitK_beq];simp
theorem topK_eq {cols:List (Int×Bool)}(x y:Int):((topK cols 61 0 noC x y).2==0)=((x==y)||((x==0)||(y==0))):=by
 rw [show topK cols 61 0 noC x y=if fitK x y=true then (98,0) else (0,5) by simp [topK],←fitK_beq]
 cases fitK x y <;> rfl
theorem topK_and {cols:List (Int×Bool)}(x y:Int):((topK cols 38 0 noC x y).2==0)=(((x==98)||(x==0))&&((y==98)||(y==0))):=by
 rw [show topK cols 38 0 noC x y=if fitK x 98=true∧fitK y 98=true then (98,0) else (0,5) by simp [topK],←fitK_yes,←fitK_yes]
 cases fitK x 98 <;> cases fitK y 98 <;> rfl
theorem topK_is {cols:List (Int×Bool)}(x y:Int):topK cols 63 0 noC x y=(98,0):=by simp [topK]
theorem kindK_small {cols:List (Int×Bool)}{t:Trm}(h:sizeT t≤30):kindK cols t=ofK cols t:=by
 unfold kindK
 rw [if_neg]
 unfold wrap64
 omega
theorem wrap_small {n:Nat}(h:n≤1000):wrap64 (n:Int)=n:=by
 unfold wrap64
 omega
theorem size_one (op:Int)(a:Trm):sizeT (oneT15 op a)=1+sizeT a:=by rw [oneT15,sizeT,sizeTs,sizeTs,Nat.add_zero]
theorem topK_more {cols more:List (Int×Bool)}{op col:Int}{cell:ByteArray}{a b:Int}(h:(topK cols op col cell a b).2=0):topK (cols++more) op col cell a b=topK cols op col cell a b:=by
 unfold topK at h ⊢
 by_cases h99:op=99
 ·rw [if_pos h99] at h ⊢
  rw [if_pos h99]
  by_cases hc:0≤col∧col < cols.length
  ·rw [if_pos hc,if_pos ⟨hc.1,by rw [List.length_append];omega⟩]
   rw [List.getD_eq_getElem?_getD,List.getD_eq_getElem?_getD,List.getElem?_append_left (by omega)]
  ·rw [if_neg hc] at h
   exact absurd h (by decide)
 ·rw [if_neg h99,if_neg h99]
theorem ofK_more {cols more:List (Int×Bool)}(t:Trm):(ofK cols t).2=0→ofK (cols++more) t=ofK cols t:=by
 refine Trm.ind (P:=fun t=>(ofK cols t).2=0→ofK (cols++more) t=ofK cols t) (fun t ih=>?_) t
 obtain ⟨op,col,cell,ks⟩:=t
 intro h
 obtain ⟨l,hn,hr,he⟩:=ofK_ok h
 have hks:∀ (ks:List Trm) (l:List Int),(∀ k∈ks,(ofK cols k).2=0→ofK (cols++more) k=ofK cols k)→ofKs cols ks=.inr l→ofKs (cols++more) ks=.inr l:=by
  intro ks
  induction ks with
  | nil=>intro l _ hl;rw [ofKs] at hl ⊢;exact hl
  | cons k ks ih2 =>
   intro l hk hl
   rw [ofKs] at hl
   have h1:=hk k (List.mem_cons_self ..)
   rcases hok:ofK cols k with ⟨u,e1⟩
   rw [hok] at hl h1
   dsimp only at hl h1
   by_cases h0:e1=0
   ·rw [if_pos h0] at hl
    cases hr:ofKs cols ks with
    | inl e2=>rw [hr] at hl;exact absurd hl (by simp)
    | inr m =>
     rw [hr] at hl
     rw [ofKs,h1 h0,ih2 m (fun k' hk'=>hk k' (List.mem_cons_of_mem _ hk')) hr]
     dsimp only
     rw [if_pos h0]
     exact hl
   ·rw [if_neg h0] at hl;exact absurd hl (by simp)
 rw [he] at h ⊢
 rw [ofK_eq,if_pos hn,hks ks l (fun k hk=>ih k hk) hr]
 exact topK_more h
end Go.Proofs.Ytegpikfgajoopaa
