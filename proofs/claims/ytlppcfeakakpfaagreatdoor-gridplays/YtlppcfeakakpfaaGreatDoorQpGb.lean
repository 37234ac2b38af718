/- Variables of two and of four cells. No function of the program here. Nodes as data: trees of fields; how they lie in memory. No function of the program here. weight and heavy: how many nodes. Contents as data; heavy. -/
import Derived.Test.YtlppcfeakakpfaaGreatDoorQpGa
import Derived.Deep.MidRow
set_option maxRecDepth 20000
set_option maxHeartbeats 4000000
namespace Go.Proofs.YtlppcfeakakpfaaGreatDoor
open Go.RowKit
def Has2 (w:World) (b:Nat) (x y:Value):Prop:=(w.cell? ⟨b,0,none⟩=some x∧w.cell? ⟨b,1,none⟩=some y)∧(w.frozen? ⟨b,0,none⟩=false∧w.frozen? ⟨b,1,none⟩=false)
theorem has2_new (w:World) (x y:Value) (t:TypeId):Has2 (w.alloc (.cells #[x,y] t)) w.heap.size x y:=by
 refine ⟨⟨?_,?_⟩,?_,?_⟩
 ·rw [World.cell?_alloc_at _ _ _ _ rfl];rfl
 ·rw [World.cell?_alloc_at _ _ _ _ rfl];rfl
 ·rw [frozen?_alloc_cells,frozen_new]
 ·rw [frozen?_alloc_cells,frozen_new]
theorem Has2.gr {w w':World} {b:Nat} {x y:Value} (h:Has2 w b x y) (g:Gr w w'):Has2 w' b x y:=by
 obtain ⟨⟨h0,h1⟩,f0,f1⟩:=h
 exact ⟨⟨g.cell (cell_lt h0) h0,g.cell (cell_lt h1) h1⟩,by rw [g.froz,f0],by rw [g.froz,f1]⟩
structure Hd where
 k:Int
 o:Int
 x:Nat
 s:ByteArray
 b:Bool
 f:Int
 c1:Int
 r1:Int
 p1:Bool
 q1:Bool
 c2:Int
 r2:Int
 p2:Bool
 q2:Bool
inductive Nd where
 | mk (h:Hd) (ts:List Nd)
def Nd.hd:Nd→Hd
 | .mk h _=>h
def Nd.ts:Nd→List Nd
 | .mk _ ts=>ts
theorem Nd.eta (t:Nd):t=.mk t.hd t.ts:=by cases t;rfl
mutual
def Nd.size:Nd→Nat
 | .mk _ ts=>1+sizeL ts
def sizeL:List Nd→Nat
 | []=>0
 | t :: ts=>t.size+sizeL ts
end
theorem sizeL_append (a b:List Nd):sizeL (a ++ b)=sizeL a+sizeL b:=by
 induction a with
 | nil=>simp [sizeL]
 | cons t ts ih=>rw [List.cons_append,sizeL,sizeL,ih,Nat.add_assoc]
theorem sizeL_take (ts:List Nd) (i:Nat) (h:i < ts.length):sizeL (ts.take (i+1))=sizeL (ts.take i)+(ts[i]).size:=by
 rw [List.take_add_one,List.getElem?_eq_getElem h,sizeL_append]
 simp [sizeL]
theorem sizeL_take_le (ts:List Nd) (i:Nat):sizeL (ts.take i)≤sizeL ts:=by
 conv=>rhs;rw [← List.take_append_drop i ts,sizeL_append]
 exact Nat.le_add_right _ _
theorem size_pos (t:Nd):1≤t.size:=by cases t;rw [Nd.size];omega
theorem size_get (ts:List Nd) (i:Nat) (h:i < ts.length):(ts[i]).size≤sizeL ts:=by
 have:=sizeL_take ts i h
 have:=sizeL_take_le ts (i+1)
 omega
theorem length_sizeL (ts:List Nd):ts.length≤sizeL ts:=by
 induction ts with
 | nil=>simp
 | cons t ts ih=>have:=size_pos t;rw [sizeL,List.length_cons];omega
abbrev Hd.cells (h:Hd) (sl:Value):List Value:=[.int .i64 h.k,.int .i64 h.o,.float .f64 h.x,.string h.s,.bool h.b,.int .i64 h.f,.int .i64 h.c1,.int .i64 h.r1,.bool h.p1,.bool h.q1,.int .i64 h.c2,.int .i64 h.r2,.bool h.p2,.bool h.q2,sl]
abbrev Hd.val (h:Hd) (sl:Value):Value:=.agg #[.int .i64 h.k,.int .i64 h.o,.float .f64 h.x,.string h.s,.bool h.b,.int .i64 h.f,.int .i64 h.c1,.int .i64 h.r1,.bool h.p1,.bool h.q1,.int .i64 h.c2,.int .i64 h.r2,.bool h.p2,.bool h.q2,sl]
mutual
def NdIn (w:World) (F:Nat→Prop) (sl:Value):Nd→Prop
 | .mk _ ts=>∃ (a:Option Addr) (c:Nat),sl=.slice a ts.length c∧ts.length≤c∧c≤maxLen∧((ts=[]∧(c=0∨a≠none))∨∃ b o,a=some ⟨b,o,none⟩∧F b∧NdsIn w F b o ts)
def NdsIn (w:World) (F:Nat→Prop) (b o:Nat):List Nd→Prop
 | []=>True
 | t :: ts=>(∃ sl,w.rangeAt b o (t.hd.cells sl)∧NdIn w F sl t)∧NdsIn w F b (o+15) ts
end
theorem NdsIn.get {w:World} {F:Nat→Prop} {b:Nat} {ts:List Nd}:∀ {o:Nat},NdsIn w F b o ts→∀ i,(h:i < ts.length)→∃ sl,w.rangeAt b (o+i * 15) ((ts[i]).hd.cells sl)∧NdIn w F sl ts[i]:=by
 induction ts with
 | nil=>intro o _ i h;exact absurd h (by simp)
 | cons t ts ih=>
  intro o hn i h
  rw [NdsIn] at hn
  cases i with
  | zero=>simpa using hn.1
  | succ i=>
   obtain ⟨sl,h1,h2⟩:=ih hn.2 i (by simpa using h)
   refine ⟨sl,?_,h2⟩
   rw [show o+(i+1) * 15=o+15+i * 15 by omega]
   exact h1
theorem rangeAt_lt {w:World} {b o:Nat} {v:Value} {cs:List Value} (h:w.rangeAt b o (v :: cs)):b < w.heap.size:=
 cell_lt (h 0 v rfl)
theorem rangeAt_block {w w':World} {b o:Nat} {cs:List Value} (h:w.rangeAt b o cs) (hb:w'.heap[b]? = w.heap[b]?):w'.rangeAt b o cs:=by
 intro j v hj
 have:=h j v hj
 simp only [World.cell?] at this ⊢
 rw [hb];exact this
theorem rangeAt_gr {w w':World} {b o:Nat} {v:Value} {cs:List Value} (h:w.rangeAt b o (v :: cs)) (g:Gr w w'):w'.rangeAt b o (v :: cs):=
 rangeAt_block h (g.ext.block b (rangeAt_lt h))
mutual
theorem NdIn.mono {w w':World} {F F':Nat→Prop} (hF:∀ b,F b→b < w.heap.size→w'.heap[b]? = w.heap[b]? ∧ F' b) {sl:Value}:∀ {t:Nd},NdIn w F sl t→NdIn w' F' sl t
 | .mk _ ts,h=>by
  rw [NdIn] at h ⊢
  obtain ⟨a,c,h1,h2,h3,h4⟩:=h
  refine ⟨a,c,h1,h2,h3,?_⟩
  rcases h4 with h4|⟨b,o,h4,h5,h6⟩
  ·exact .inl h4
  ·cases ts with
   | nil=>
    subst h4
    exact .inl ⟨rfl,.inr (by simp)⟩
   | cons t ts=>
    have hb:b < w.heap.size:=by
     rw [NdsIn] at h6
     obtain ⟨⟨_,h7,_⟩,_⟩:=h6
     exact rangeAt_lt h7
    exact .inr ⟨b,o,h4,(hF b h5 hb).2,NdsIn.mono hF (hF b h5 hb).1 h6⟩
theorem NdsIn.mono {w w':World} {F F':Nat→Prop} (hF:∀ b,F b→b < w.heap.size→w'.heap[b]? = w.heap[b]? ∧ F' b) {b:Nat} (hb:w'.heap[b]? = w.heap[b]?):∀ {ts:List Nd} {o:Nat},NdsIn w F b o ts→NdsIn w' F' b o ts
 | [],_,_=>by rw [NdsIn];trivial
 | t :: ts,o,h=>by
  rw [NdsIn] at h ⊢
  obtain ⟨⟨sl,h1,h2⟩,h3⟩:=h
  exact ⟨⟨sl,rangeAt_block h1 hb,NdIn.mono hF h2⟩,NdsIn.mono hF hb h3⟩
end
theorem NdIn.gr {w w':World} {F:Nat→Prop} {sl:Value} {t:Nd} (h:NdIn w F sl t) (g:Gr w w'):NdIn w' F sl t:=
 h.mono fun b hb hlt=>⟨g.ext.block b hlt,hb⟩
theorem infoNode:(Tryz.prog.info? 44).map (·.size)=some 15:=by kernel_rfl
def wgt (n:Nat) (m:Int):Int:=if (n:Int)≤m then n else m+1
theorem weight_any (N:Nat):∀ (t:Nd) (sl:Value) (F:Nat→Prop) (m:Int) (w:World),t.size≤N→NdIn w F sl t→0≤m→m≤1048576 →
  Calls Tryz.prog 16 #[t.hd.val sl,.int .i64 m] w fun e w'=>e=.returned (.int .i64 (wgt t.size m))∧Gr w w':=by
 induction N with
 | zero=>intro t sl F m w h;have:=size_pos t;omega
 | succ N ih=>
  intro t sl F m w hN hin h0 hm
  obtain ⟨hd,ts⟩:=t
  rw [NdIn] at hin
  obtain ⟨a,c,rfl,h2,h3,h4⟩:=hin
  have hsz:Hid ((Nd.mk hd ts).size=1+sizeL ts):=by show _=_;rw [Nd.size]
  have HN:Hid ((Nd.mk hd ts).size≤N+1):=hN
  have IH:Hid (∀ (t:Nd) (sl:Value) (F:Nat→Prop) (m:Int) (w:World),t.size≤N→NdIn w F sl t→0≤m→m≤1048576 →
   Calls Tryz.prog 16 #[t.hd.val sl,.int .i64 m] w fun e w'=>e=.returned (.int .i64 (wgt t.size m))∧Gr w w'):=ih
  clear ih hN
  have hlen:ts.length≤9223372036854775807:=by unfold maxLen at h3;omega
  have H4:Hid ((ts=[]∧(c=0∨a≠none))∨∃ b o,a=some ⟨b,o,none⟩∧F b∧NdsIn w F b o ts):=h4
  clear h4 h2 h3
  generalize hn:ts.length=n at *
  have HL:Hid (ts.length=n):=hn
  have HLEN:Hid (n≤9223372036854775807):=hlen
  clear hn hlen
  generalize hW:(Nd.mk hd ts).size=S at *
  simp only [Nd.hd]
  obtain ⟨k,o',x,s,bb,f,c1,r1,p1,q1,c2,r2,p2,q2⟩:=hd
  have hm':0≤m:=h0
  go_enter Tryz.func16,Tryz.ntmps16
  go_wp2_with fail
  generalize hW0:(w.alloc (.cells #[.int .i64 k,.int .i64 o',.float .f64 x,.string s,.bool bb,.int .i64 f,.int .i64 c1,.int .i64 r1,.bool p1,.bool q1,.int .i64 c2,.int .i64 r2,.bool p2,.bool q2,.slice a n c] 44))=W0 at *
  have G0:Hid (Gr w W0):=by show Gr _ _;rw [← hW0];exact (Gr.refl w).alloc _ _
  have C0:Hid (W0.cell? ⟨w.heap.size,14,none⟩=some (.slice a n c)):=by
   show _=_
   rw [← hW0,World.cell?_alloc_at _ _ _ _ rfl];rfl
  have HB:Hid (w.heap.size < W0.heap.size):=cell_lt C0.out
  clear hW0
  go_loopw [5,6] (fun s i wr=>∃ k:Nat,k≤n∧s=.int .i64 (wgt (1+sizeL (ts.take k)) m)∧i=.int .i64 k∧Gr W0 wr) (fun _ i _=>n - (intOf i).toNat)
  case atStart=>exact ⟨0,Nat.zero_le _,by simp [sizeL,wgt];omega,by simp,Gr.refl _⟩
  case round=>
   obtain ⟨k,hk,rfl,rfl,hg⟩:=hrel
   have GR:Hid (Gr W0 wr):=hg
   have cl:wr.cell? ⟨w.heap.size,14,none⟩=some (.slice a n c):=hg.cell HB.out C0.out
   clear hg
   by_cases hlt:k < n
   ·have hki:k < ts.length:=by rw [HL.out];exact hlt
    by_cases hle:1+sizeL (ts.take k)≤m.toNat
    ·obtain ⟨b,o,rfl,hF,hns⟩:∃ b o,a=some ⟨b,o,none⟩∧F b∧NdsIn w F b o ts:=by
      rcases H4.out with h|h
      ·rw [h.1] at hki;simp at hki
      ·exact h
     obtain ⟨sl,hr,hni⟩:=hns.get k hki
     have G1:Gr w wr:=G0.out.trans GR.out
     have HR:Hid (wr.rangeAt b (o+k * 15) ((ts[k]).hd.cells sl)):=rangeAt_gr hr G1
     have hni':=hni.gr G1
     have hs1:=sizeL_take ts k hki
     have hs2:=sizeL_take_le ts (k+1)
     have HC:Hid (∀ wq,Gr wr wq→Calls Tryz.prog 16 #[(ts[k]).hd.val sl,.int .i64 (m - (1+sizeL (ts.take k):Nat))] wq fun e w'=>e=.returned (.int .i64 (wgt (ts[k]).size (m - (1+sizeL (ts.take k):Nat))))∧Gr wq w'):=fun wq hq=>IH.out ts[k] sl F _ wq (by have:=HN.out;have:=hsz.out;omega) (hni'.gr hq) (by omega) (by omega)
     have hw1:wgt (1+sizeL (ts.take k)) m=(1+sizeL (ts.take k):Nat):=by unfold wgt;rw [if_pos (by omega)]
     have hA:Hid (wgt (1+sizeL (ts.take (k+1))) m=(1+sizeL (ts.take k):Nat)+wgt (ts[k]).size (m - (1+sizeL (ts.take k):Nat))):=by
      show _=_
      unfold wgt
      split <;> split <;> omega
     have hbd:Hid (1≤(ts[k]).size):=size_pos _
     have hwb:wgt (ts[k]).size (m - (1+sizeL (ts.take k):Nat))≤m - (1+sizeL (ts.take k):Nat)+1∧0≤wgt (ts[k]).size (m - (1+sizeL (ts.take k):Nat)):=by
      have:=hbd.out
      unfold wgt;split <;> omega
     have hq1:(1:Int)≤(1+sizeL (ts.take k):Nat):=by omega
     have hq2:((1+sizeL (ts.take k):Nat):Int)≤m:=by omega
     rw [hw1]
     clear hw1 hs1 hs2 hle hni hni' hr hns hbd
     generalize hQ:((1+sizeL (ts.take k):Nat):Int)=q at *
     generalize wgt (ts[k]).size (m - q)=z at *
     generalize (ts[k]).hd=hh at *
     clear hQ
     obtain ⟨hw2,hw3⟩:=hwb
     have hkb:(k:Int)+1≤9223372036854775807:=by have:=HLEN.out;omega
     clear hW
     as_aux_lemma=>
     go_wp2_with (refine wpList_load_mid rfl 44 (.tmp 23) rfl b (o+k * 15) rfl (hh.cells sl) _ HR.out Tryz.underlying44 rfl infoNode ?_)
     refine (HC.out _ (Gr.refl _)).mono ?_
     rintro e w1 ⟨rfl,hg1⟩
     have G2:Hid (Gr W0 w1):=GR.out.trans hg1
     clear hg1 cl
     go_wp2_with fail
     go_roundw
     case rel=>exact ⟨k+1,by omega,by rw [hA.out],by go_num,G2.out⟩
     case measure=>simp only [intOf];omega
    ·have hw1:wgt (1+sizeL (ts.take k)) m=m+1:=by unfold wgt;rw [if_neg (by omega)]
     have hw4:Hid (wgt S m=m+1):=by
      show _=_
      have:=sizeL_take_le ts k
      have:=hsz.out
      unfold wgt;rw [if_neg (by omega)]
     rw [hw1]
     clear hw1 hle hW
     as_aux_lemma=>
     go_wp2_with fail
     go_ret
     exact ⟨rInt hw4.out.symm,G0.out.trans GR.out⟩
   ·have hke:k=n:=by omega
    subst hke
    have hw4:Hid (wgt (1+sizeL (ts.take k)) m=wgt S m):=by
     show _=_
     rw [← HL.out,List.take_length,hsz.out]
    rw [hw4.out]
    clear hW
    as_aux_lemma=>
    go_wp2_with fail
    go_ret
    exact ⟨rfl,G0.out.trans GR.out⟩
theorem weight_at (t:Nd) (sl:Value) (F:Nat→Prop) (m:Int) (w:World) (hin:NdIn w F sl t) (h0:0≤m) (hm:m≤1048576) :
  Calls Tryz.prog 16 #[t.hd.val sl,.int .i64 m] w fun e w'=>e=.returned (.int .i64 (wgt t.size m))∧Gr w w':=
 weight_any t.size t sl F m w (Nat.le_refl _) hin h0 hm
structure Vl where
 k:Int
 x:Nat
 s:ByteArray
 b:Bool
 f:Int
structure Ct where
 k:Int
 v:Vl
 t:Nd
abbrev Vl.val (v:Vl):Value:=.agg #[.int .i64 v.k,.float .f64 v.x,.string v.s,.bool v.b,.int .i64 v.f]
abbrev Ct.cells (c:Ct) (sl:Value):List Value:=[.int .i64 c.k,.int .i64 c.v.k,.float .f64 c.v.x,.string c.v.s,.bool c.v.b,.int .i64 c.v.f,
 .int .i64 c.t.hd.k,.int .i64 c.t.hd.o,.float .f64 c.t.hd.x,.string c.t.hd.s,.bool c.t.hd.b,.int .i64 c.t.hd.f,.int .i64 c.t.hd.c1,.int .i64 c.t.hd.r1,.bool c.t.hd.p1,.bool c.t.hd.q1,.int .i64 c.t.hd.c2,.int .i64 c.t.hd.r2,.bool c.t.hd.p2,.bool c.t.hd.q2,sl]
abbrev Ct.val (c:Ct) (sl:Value):Value:=.agg #[.int .i64 c.k,.int .i64 c.v.k,.float .f64 c.v.x,.string c.v.s,.bool c.v.b,.int .i64 c.v.f,
 .int .i64 c.t.hd.k,.int .i64 c.t.hd.o,.float .f64 c.t.hd.x,.string c.t.hd.s,.bool c.t.hd.b,.int .i64 c.t.hd.f,.int .i64 c.t.hd.c1,.int .i64 c.t.hd.r1,.bool c.t.hd.p1,.bool c.t.hd.q1,.int .i64 c.t.hd.c2,.int .i64 c.t.hd.r2,.bool c.t.hd.p2,.bool c.t.hd.q2,sl]
theorem heavy_at (c:Ct) (sl:Value) (F:Nat→Prop) (w:World) (hin:NdIn w F sl c.t) :
  Calls Tryz.prog 6 #[c.val sl] w fun e w'=>e=.returned (.bool (decide (1048576 < c.t.size)))∧Gr w w':=by
 have H1:Hid (∀ wq,Gr w wq→Calls Tryz.prog 16 #[c.t.hd.val sl,.int .i64 1048576] wq fun e w'=>e=.returned (.int .i64 (wgt c.t.size 1048576))∧Gr wq w'):=
  fun wq hq=>weight_at c.t sl F 1048576 wq (hin.gr hq) (by decide) (by decide)
 have hz:Hid (decide (1048576 < c.t.size)=decide ((1048576:Int) < wgt c.t.size 1048576)):=by
  show _=_
  rw [decide_eq_decide];unfold wgt;split <;> omega
 generalize decide (1048576 < c.t.size)=V at *
 generalize wgt c.t.size 1048576=z at *
 clear hin
 go_enter Tryz.func6,Tryz.ntmps6
 go_wp2_with fail
 refine (H1.out _ ((Gr.refl _).alloc _ _)).mono ?_
 rintro e w1 ⟨rfl,hg1⟩
 have G2:Hid (Gr w w1):=((Gr.refl _).alloc _ _).trans hg1
 clear hg1
 go_wp2_with fail
 all_goals
  go_ret
  refine ⟨rBool ?_,G2.out⟩
  rw [hz.out]
end Go.Proofs.YtlppcfeakakpfaaGreatDoor
