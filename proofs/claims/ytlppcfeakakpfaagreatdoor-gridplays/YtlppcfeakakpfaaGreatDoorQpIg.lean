/- unlike: the cells in which two grids have not the same. unlike: the walk. Puts: the puts that lead from one grid to another. Puts tells puts in memory of their own: wip/grid/Im, by wip/gen_prj.py. filled: a grid's cells, in order. within: a grid's contents, in order, as they stand in the grid. -/
import Derived.Test.YtlppcfeakakpfaaGreatDoorQpId
import Derived.Test.YtlppcfeakakpfaaGreatDoorQpIf
import Derived.Test.YtlppcfeakakpfaaGreatDoorQpIh
import Derived.Great.BuildSlice
set_option maxRecDepth 20000
set_option maxHeartbeats 16000000
namespace Go.Proofs.YtlppcfeakakpfaaGreatDoor
open Go.RowKit Go.Maps Go.Sort Go.Lib
theorem vars2 (w1:World) (c s:Int) (ct:Ct) (sl:Value):∃ X3 X4,((w1.alloc (.cells #[.int .i64 0,.int .i64 0] 36)).alloc (.cells zC21.toArray 46)).setCells w1.heap.size 0 [.int .i64 c,.int .i64 s]=X3∧X3.setCells (w1.heap.size+1) 0 (ct.cells sl)=X4 ∧
  ((w1.alloc (.cells #[.int .i64 0,.int .i64 0] 36)).alloc (.cells zC21.toArray 46)).there w1.heap.size 0 2∧X3.there (w1.heap.size+1) 0 21∧Vars2 w1 X4 c s (ct.cells sl):=by
 obtain ⟨X2,hX2⟩:∃ X2,(w1.alloc (.cells #[.int .i64 0,.int .i64 0] 36)).alloc (.cells zC21.toArray 46)=X2:=⟨_,rfl⟩
 obtain ⟨X3,hX3⟩:∃ X3,X2.setCells w1.heap.size 0 [.int .i64 c,.int .i64 s]=X3:=⟨_,rfl⟩
 obtain ⟨X4,hX4⟩:∃ X4,X3.setCells (w1.heap.size+1) 0 (ct.cells sl)=X4:=⟨_,rfl⟩
 have q2:Kp w1 X2 Nul:=by rw [← hX2];exact ((Kp.refl _ _).alloc _).alloc _
 have a2:Blk X2 w1.heap.size [.int .i64 0,.int .i64 0] 36:=by rw [← hX2];exact (Blk.new w1 [.int .i64 0,.int .i64 0] _).alloc _
 have c2:Blk X2 (w1.heap.size+1) zC21 46:=by
  have:=Blk.new (w1.alloc (.cells #[.int .i64 0,.int .i64 0] 36)) zC21 46
  rw [World.size_alloc] at this
  rw [← hX2];exact this
 have a3:Blk X3 w1.heap.size [.int .i64 c,.int .i64 s] 36:=by rw [← hX3];exact heap_setCells_whole (cs:=#[.int .i64 c,.int .i64 s]) a2 rfl
 have c3:Blk X3 (w1.heap.size+1) zC21 46:=by rw [← hX3];exact (heap_setCells_ne (by omega) _ _ _).trans c2
 have a4:Blk X4 w1.heap.size [.int .i64 c,.int .i64 s] 36:=by rw [← hX4];exact (heap_setCells_ne (by omega) _ _ _).trans a3
 have c4:Blk X4 (w1.heap.size+1) (ct.cells sl) 46:=by rw [← hX4];exact heap_setCells_whole (cs:=(ct.cells sl).toArray) c3 (by simp)
 have q4:Kp w1 X4 Nul:=(q2.trans' (hX3 ▸ setCells_kp (fun i=>i=w1.heap.size) rfl _ _ X2) (fun i hi e=>by have:i=w1.heap.size:=e;omega)).trans' (hX4 ▸ setCells_kp (fun i=>i=w1.heap.size+1) rfl _ _ X3) (fun i hi e=>by have:i=w1.heap.size+1:=e;omega)
 refine ⟨X3,X4,by rw [hX2];exact hX3,hX4,by rw [hX2];exact there_of_block a2 _ _ (by simp),there_of_block c3 _ _ (by simp),q4,a4,c4⟩
theorem GRg.lt {w:World} {A:Nat} {mv:Option Nat} {r:Nat} {rem:List Cc} (h:GRg w A mv r rem):r < w.heap.size:=by
 obtain ⟨_,_,⟨_,_,q⟩|⟨m,D,left,cnt,_,_,q,_⟩⟩:=h
 ·exact (Array.getElem?_eq_some_iff.1 q).1
 ·exact q.lt
theorem GRg.no_cells {w:World} {A:Nat} {mv:Option Nat} {r:Nat} {rem:List Cc} (h:GRg w A mv r rem):∀ cs t f,w.heap[r]? ≠ some (.cells cs t f):=fun cs t f q=>by
 obtain ⟨_,_,⟨_,_,e⟩|⟨m,D,left,cnt,_,_,e,_⟩⟩:=h
 ·rw [e] at q;cases q
 ·obtain ⟨es,clock,since,seen,c0,h1,h2,h3,h4,h5,h6⟩:=e
  rw [h5] at q;cases q
def UnP (L:List Cc) (x:Int×Int) (b:Ct):Prop:=¬ ∃ a,(x,a)∈L∧csame a b=true
def Un (L M:List Cc) (x:Int×Int):Prop:=(∃ b,(x,b)∈M∧UnP L x b)∨((∃ a,(x,a)∈L)∧∀ b,(x,b) ∉ M)
structure UnR (w:World) (A:Nat) (mv:Option Nat) (r n:Nat) (P:Cc→Prop) (base:(Int×Int)→Prop) (all:List Cc) (v:Value) (wr:World) (rem:List Cc) (acc:List (Int×Int)):Prop where
 rg:GRg wr A mv r rem
 row:wr.ownsRow A 36 2 v acc.length (flatK encA 2 acc.toArray).toList
 len:acc.length+rem.length≤n
 nodup:acc.Nodup
 mem:∀ x,x∈acc ↔ base x∨∃ b,(x,b)∈all∧(x,b) ∉ rem∧P (x,b)
 sub:∀ x,x∈rem→x∈all
 kp:Kp w wr Nul
theorem filt_len {rem:List Cc} {c s:Int} {ct:Ct} (ho:rem.Pairwise (fun x y=>x.1≠y.1)) (h:((c,s),ct)∈rem):(rem.filter (fun x=>decide (x.1≠(c,s)))).length+1=rem.length:=filt_one ho h
theorem UnR.skip {w:World} {A:Nat} {mv:Option Nat} {r n:Nat} {P:Cc→Prop} {base:(Int×Int)→Prop} {all:List Cc} {v:Value} {wr w2:World} {rem:List Cc} {acc:List (Int×Int)} (h:UnR w A mv r n P base all v wr rem acc) {c s:Int} {ct:Ct} (hm:((c,s),ct)∈rem)
  (hp:¬ P ((c,s),ct)) (hone:all.Pairwise (fun x y=>x.1≠y.1)) (hrg:GRg w2 A mv r (rem.filter (fun x=>decide (x.1≠(c,s))))) (hrow:w2.ownsRow A 36 2 v acc.length (flatK encA 2 acc.toArray).toList) (hk:Kp w w2 Nul) :
  UnR w A mv r n P base all v w2 (rem.filter (fun x=>decide (x.1≠(c,s)))) acc:=by
 refine ⟨hrg,hrow,by have:=h.len;have:=filt_len h.rg.1 hm;omega,h.nodup,fun x=>?_,fun x hx=>h.sub x (List.mem_filter.1 hx).1,hk⟩
 rw [h.mem]
 constructor
 ·rintro (q|⟨b,q1,q2,q3⟩)
  ·exact .inl q
  ·exact .inr ⟨b,q1,fun q=>q2 (List.mem_filter.1 q).1,q3⟩
 ·rintro (q|⟨b,q1,q2,q3⟩)
  ·exact .inl q
  ·refine .inr ⟨b,q1,fun q=>?_,q3⟩
   by_cases e:x=(c,s)
   ·subst e
    rw [once_eq hone q1 (h.sub _ hm)] at q3
    exact hp q3
   ·exact q2 (List.mem_filter.2 ⟨q,decide_eq_true e⟩)
theorem UnR.take {w:World} {A:Nat} {mv:Option Nat} {r n:Nat} {P:Cc→Prop} {base:(Int×Int)→Prop} {all:List Cc} {v v2:Value} {wr w2:World} {rem:List Cc} {acc:List (Int×Int)} (h:UnR w A mv r n P base all v wr rem acc) {c s:Int} {ct:Ct} (hm:((c,s),ct)∈rem)
  (hp:P ((c,s),ct)) (hone:all.Pairwise (fun x y=>x.1≠y.1)) (hb:¬ base (c,s)) (hrg:GRg w2 A mv r (rem.filter (fun x=>decide (x.1≠(c,s))))) (hrow:w2.ownsRow A 36 2 v2 (acc.length+1) ((flatK encA 2 acc.toArray).toList ++ encA (c,s))) (hk:Kp w w2 Nul) :
  UnR w A mv r n P base all v2 w2 (rem.filter (fun x=>decide (x.1≠(c,s)))) (acc ++ [(c,s)]):=by
 have hx:(c,s) ∉ acc:=fun q=>by
  rcases (h.mem _).1 q with q|⟨b,q1,q2,_⟩
  ·exact hb q
  ·rw [once_eq hone q1 (h.sub _ hm)] at q2
   exact q2 hm
 refine ⟨hrg,by rw [flat_snoc,List.length_append];exact hrow,by have:=h.len;have:=filt_len h.rg.1 hm;simp only [List.length_append,List.length_singleton];omega,nodup_snoc h.nodup hx,fun x=>?_,fun x hx=>h.sub x (List.mem_filter.1 hx).1,hk⟩
 rw [List.mem_append,List.mem_singleton,h.mem]
 constructor
 ·rintro ((q|⟨b,q1,q2,q3⟩)|rfl)
  ·exact .inl q
  ·exact .inr ⟨b,q1,fun q=>q2 (List.mem_filter.1 q).1,q3⟩
  ·exact .inr ⟨ct,h.sub _ hm,fun q=>by have:=of_decide_eq_true (List.mem_filter.1 q).2;exact this rfl,hp⟩
 ·rintro (q|⟨b,q1,q2,q3⟩)
  ·exact .inl (.inl q)
  ·by_cases e:x=(c,s)
   ·exact .inr e
   ·exact .inl (.inr ⟨b,q1,fun q=>q2 (List.mem_filter.2 ⟨q,decide_eq_true e⟩),q3⟩)
theorem row_ne {w:World} {A:Nat} {mv:Option Nat} {r:Nat} {rem:List Cc} {e:TypeId} {k n:Nat} {v:Value} {xs:List Value} (h:GRg w A mv r rem) (q:w.ownsRow A e k v n xs):v.ownBlock≠some r:=fun eq=>by
 obtain ⟨_,⟨rfl,_⟩|⟨g,c,cur,rfl,_,h3,_⟩⟩:=q
 ·cases eq
 ·have:g=r:=by simpa [Value.ownBlock] using eq
  subst this
  exact h.no_cells _ _ _ h3
theorem look_ct {w:World} {g:Nat} {L:List Cc} (h:GI 0 w g L) (gL:∀ x∈L,Gd x.2) {c s:Int} (hc:I64 c) (hs:I64 s) {mv:Option Nat} (hb:Blk w g [.map mv] 68) :
  ∃ a sa b,Lk w g c s mv (a.val sa) b∧NdIn w (fun b=>0≤b) sa a.t∧a.v.x < 18446744073709551616∧a.t.ok∧a.t.size≤1048576∧cpC a=a∧((b=true∧((c,s),a)∈L)∨(b=false∧a=ct0∧sa=.slice none 0 0∧∀ a',((c,s),a') ∉ L)):=by
 obtain ⟨mv',v,b,q1,q2⟩:=lk_of h hc hs
 have e:mv'=mv:=by
  have q:=q1.cell.symm.trans hb
  simpa using q
 subst e
 rcases q2 with ⟨rfl,ct,sl,h1,rfl,h3⟩|⟨rfl,rfl,h2⟩
 ·have hgd:=gL _ h1
  exact ⟨ct,sl,true,q1,h3,hgd.x,hgd.ok,hgd.size,hgd.cp,.inl ⟨rfl,h1⟩⟩
 ·refine ⟨ct0,.slice none 0 0,false,q1,zNd_in w _,by decide,zNd_ok,by show zNd.size≤_;rw [zsize];decide,?_,.inr ⟨rfl,rfl,rfl,h2⟩⟩
  unfold cpC ct0
  simp only [cpy_zNd]
  rfl
theorem csame_zero {b:Ct} (hb:b.k≠0):csame ct0 b=false:=by
 have:(ct0.k == b.k)=false:=by
  have:(0:Int)≠b.k:=fun e=>hb e.symm
  simpa [ct0] using this
 unfold csame
 rw [this];rfl
theorem unlike_at (g o:Nat) (L M:List Cc) (w:World) (hg:GI 0 w g L) (ho:GI 0 w o M) (gL:∀ x∈L,Gd x.2) (gM:∀ x∈M,Gd x.2) (lL:L.length≤4096) (lM:M.length≤4096) :
  Calls Tryz.prog 51 #[.pointer (some ⟨g,0,none⟩),.pointer (some ⟨o,0,none⟩)] w fun e w'=>∃ U v',e=.returned v'∧CellsFrom w.heap.size w' v' U∧Strict U∧(∀ x,x∈U ↔ Un L M x)∧Kp w w' Nul:=by
 obtain ⟨mvg,bg⟩:=hg.blk
 obtain ⟨mvo,bo⟩:=ho.blk
 have co:w.cell? ⟨o,0,none⟩=some (.map mvo):=bo.cell rfl
 obtain ⟨i0,hi,hz0,hz1,hz2⟩:=infoAddr
 have HG:Hid (GI 0 w g L):=hg
 have HO:Hid (GI 0 w o M):=ho
 have HBg:Hid (Blk w g [.map mvg] 68):=bg
 have HBo:Hid (Blk w o [.map mvo] 68):=bo
 have HGL:Hid (∀ x∈L,Gd x.2):=gL
 have HGM:Hid (∀ x∈M,Gd x.2):=gM
 have HLL:Hid (L.length≤4096):=lL
 have HLM:Hid (M.length≤4096):=lM
 have HRM:Hid (∀ x∈M,I64 x.1.1∧I64 x.1.2):=by
  obtain ⟨_,⟨_,rfl⟩|⟨m,D,_,_,_,_,hm⟩⟩:=ho
  ·intro x hx;simp at hx
  ·exact hm.rng
 have HRL:Hid (∀ x∈L,I64 x.1.1∧I64 x.1.2):=by
  obtain ⟨_,⟨_,rfl⟩|⟨m,D,_,_,_,_,hm⟩⟩:=hg
  ·intro x hx;simp at hx
  ·exact hm.rng
 clear hg ho bg bo gL gM lL lM
 go_enter Tryz.func51,Tryz.ntmps51
 go_wp2_with (first
  | (at_range;refine wpList_range_grid _ rfl _ rfl o M mvo w.heap.size rfl HO.out.low HBo.out ?_;intro w0 hrg0 hg0 hs0)
  | fail)
 have HStart:Hid (UnR w w.heap.size mvo w.heap.size M.length (fun y=>UnP L y.1 y.2) (fun _=>False) M (.slice none 0 0) w0 M []):=by
  refine ⟨hrg0,⟨by simp [flatK],.inl ⟨rfl,rfl⟩⟩,by simp,List.nodup_nil,fun x=>⟨fun h=>by simp at h,fun h=>?_⟩,fun x h=>h,Kp.of_grown hg0 (fun i e=>by cases e)⟩
  rcases h with h|⟨b,h1,h2,_⟩
  ·exact h.elim
  ·exact absurd h1 h2
 clear hrg0 hg0 hs0 co
 go_frame
 go_loopw [5] (fun v wr=>∃ rem acc,UnR w w.heap.size mvo w.heap.size M.length (fun y=>UnP L y.1 y.2) (fun _=>False) M v wr rem acc) (fun _ wr=>glen wr mvo w.heap.size)
 case atStart=>exact ⟨M,[],HStart.out⟩
 case round=>
  clear HStart
  obtain ⟨rem,acc,hun⟩:=hrel
  have HUN:Hid (UnR w w.heap.size mvo w.heap.size M.length (fun y=>UnP L y.1 y.2) (fun _=>False) M u5 wr rem acc):=hun
  have HRG:Hid (GRg wr w.heap.size mvo w.heap.size rem):=hun.rg
  clear hun
  go_wp2_with (first
   | (at_next;refine wpList_next_grid _ rfl _ rfl w.heap.size mvo w.heap.size rem rfl HRG.out (Nat.le_refl _) ?_ ?_)
   | fail)
  ·intro hr0
   have hkp:=HUN.out.kp
   have cg:wr.cell? ⟨g,0,none⟩=some (.map mvg):=(HBg.out.kp hkp (fun x=>x)).cell rfl
   have HLow:Hid (GridIn wr (fun b=>b < w.heap.size) g L):=HG.out.low.kp hkp
   have HBg2:Hid (Blk wr g [.map mvg] 68):=HBg.out.kp hkp (fun x=>x)
   have HKW:Hid (Kp w wr Nul):=hkp
   have HROW:Hid (wr.ownsRow w.heap.size 36 2 u5 acc.length (flatK encA 2 acc.toArray).toList):=HUN.out.row
   have HM1:Hid (∀ x,x∈acc ↔ ∃ b,(x,b)∈M∧UnP L x b):=fun x=>by
    rw [HUN.out.mem,hr0]
    simp
   have HND:Hid acc.Nodup:=HUN.out.nodup
   have HLE:Hid (acc.length≤M.length):=by show _≤_;have:=HUN.out.len;omega
   clear hr0 hkp HUN HRG
   go_wp2_with (first
    | (at_range;refine wpList_range_grid _ rfl _ rfl g L mvg w.heap.size rfl HLow.out HBg2.out ?_;intro w0 hrg0 hg0 hs0)
    | fail)
   have HStart:Hid (UnR w w.heap.size mvg wr.heap.size (M.length+L.length) (fun y=>∀ b,(y.1,b) ∉ M) (fun x=>∃ b,(x,b)∈M∧UnP L x b) L u5 w0 L acc):=by
    have k0:Kp wr w0 Nul:=Kp.of_grown hg0 (fun i e=>by cases e)
    refine ⟨hrg0,row_kp HROW.out k0 (fun i _ e=>e),by have:=HLE.out;omega,HND.out,fun x=>?_,fun x h=>h,HKW.out.trans k0⟩
    rw [HM1.out]
    constructor
    ·exact fun h=>.inl h
    ·rintro (h|⟨b,h1,h2,_⟩)
     ·exact h
     ·exact absurd h1 h2
   have HAr:Hid (w.heap.size≤wr.heap.size):=HKW.out.size
   clear hrg0 hg0 hs0 cg HROW HM1 HND HLE HLow HBg2 HKW
   go_frame
   obtain ⟨r2,hr2⟩:∃ r2,wr.heap.size=r2:=⟨_,rfl⟩
   rw [hr2] at HStart HAr
   rw [hr2]
   clear hr2
   go_loopw [5] (fun v wr=>∃ rem acc,UnR w w.heap.size mvg r2 (M.length+L.length) (fun y=>∀ b,(y.1,b) ∉ M) (fun x=>∃ b,(x,b)∈M∧UnP L x b) L v wr rem acc) (fun _ wr=>glen wr mvg r2)
   case atStart=>exact ⟨L,acc,HStart.out⟩
   case round=>
    clear HStart
    obtain ⟨rem2,acc2,hun⟩:=hrel
    have HUN:Hid (UnR w w.heap.size mvg r2 (M.length+L.length) (fun y=>∀ b,(y.1,b) ∉ M) (fun x=>∃ b,(x,b)∈M∧UnP L x b) L u5 wr rem2 acc2):=hun
    have HRG:Hid (GRg wr w.heap.size mvg r2 rem2):=hun.rg
    have HROW:Hid (wr.ownsRow w.heap.size 36 2 u5 acc2.length (flatK encA 2 acc2.toArray).toList):=hun.row
    clear hun
    go_wp2_with (first
     | (at_next;refine wpList_next_grid _ rfl _ rfl w.heap.size mvg r2 rem2 rfl HRG.out HAr.out ?_ ?_)
     | fail)
    ·intro hr0
     have HSort:Hid (Calls Tryz.prog 71 #[u5,.func (.func 72) #[] #[]] wr fun e w'=>e=.returned (.tuple #[])∧CellsFrom w.heap.size w' u5 (acc2.mergeSort fun x y=>!(ltOf cfA) y x)∧Kp w w' Nul):=by
      have hacc:acc2.length≤1048576:=by have:=HUN.out.len;have:=HLL.out;have:=HLM.out;omega
      refine (sort_cells acc2 u5 w.heap.size wr hacc (own1_row rfl HROW.out)).mono ?_
      rintro e w' ⟨rfl,h1,h2⟩
      exact ⟨rfl,own1_from h1,HUN.out.kp.trans' h2 (fun i hi e=>absurd e (by omega))⟩
     have HM2:Hid (∀ x,x∈(acc2.mergeSort fun x y=>!(ltOf cfA) y x) ↔ Un L M x):=fun x=>by
      rw [List.mem_mergeSort,HUN.out.mem,hr0]
      unfold Un
      constructor
      ·rintro (h|⟨a,h1,_,h2⟩)
       ·exact .inl h
       ·exact .inr ⟨⟨a,h1⟩,h2⟩
      ·rintro (h|⟨⟨a,h1⟩,h2⟩)
       ·exact .inl h
       ·exact .inr ⟨a,h1,by simp,h2⟩
     have HST:Hid (Strict (acc2.mergeSort fun x y=>!(ltOf cfA) y x)):=merge_strict HUN.out.nodup
     clear hr0 HUN HRG HROW
     go_wp2_with fail
     refine HSort.out.mono ?_
     rintro e w' ⟨rfl,hcf,hk⟩
     go_wp2_with fail
     go_ret
     exact ⟨_,_,rfl,hcf,HST.out,HM2.out,hk⟩
    ·intro c s ct sl w1 hmem hin hrg1 hlt1 hgr1 hsz1 hen
     have hne:=row_ne HRG.out HROW.out
     have k1:Kp wr w1 (fun i=>i=r2):=Kp.of_grown hgr1 (fun i e=>by cases e;rfl)
     have HK1:Hid (Kp w w1 Nul):=HUN.out.kp.trans' k1 (fun i hi e=>by have:i=r2:=e;have:=HAr.out;omega)
     have HRow1:Hid (w1.ownsRow w.heap.size 36 2 u5 acc2.length (flatK encA 2 acc2.toArray).toList):=HROW.out.kept hgr1 (.inr hne)
     have hi2:=HRL.out _ (HUN.out.sub _ hmem)
     obtain ⟨bb,hB,hhas⟩:=has_gi HO.out hi2.1 hi2.2
     have HH:Hid (∀ wq,Kp w wq Nul→Calls Tryz.prog 36 #[.pointer (some ⟨o,0,none⟩),.agg #[.int .i64 c,.int .i64 s]] wq fun e w'=>e=.returned (.bool bb)∧Kp wq w' Nul):=hhas
     have HBB:Hid ((bb=true∧∃ ct,((c,s),ct)∈M)∨(bb=false∧∀ ct,((c,s),ct) ∉ M)):=hB
     have HG1:Hid (GRg w1 w.heap.size mvg r2 (rem2.filter (fun x=>decide (x.1≠(c,s))))):=by show GRg _ _ _ _ _;simpa using hrg1
     have HLT:Hid (glen w1 mvg r2 < glen wr mvg r2):=hlt1
     have HMEM:Hid (((c,s),ct)∈rem2):=hmem
     have HA3:Hid (∀ wq,Kp (w1.alloc (.cells #[.int .i64 c,.int .i64 s] 36)) wq Nul→wq.cell? ⟨w1.heap.size,0,none⟩=some (.int .i64 c)∧wq.cell? ⟨w1.heap.size,1,none⟩=some (.int .i64 s)):=fun wq k=>⟨((Blk.new w1 [.int .i64 c,.int .i64 s] 36).kp k (fun x=>x)).cell rfl,((Blk.new w1 [.int .i64 c,.int .i64 s] 36).kp k (fun x=>x)).cell rfl⟩
     clear hne k1 hi2 hB hhas hrg1 hlt1 hgr1 hsz1 hmem hin
     go_wp2_with fail
     refine (HH.out _ (HK1.out.alloc _)).mono ?_
     rintro e w3 ⟨rfl,hk3⟩
     obtain ⟨q0,q1⟩:=HA3.out w3 hk3
     have hk13:Kp w1 w3 Nul:=((Kp.refl w1 Nul).alloc _).trans hk3
     have HK3:Hid (Kp w w3 Nul):=HK1.out.trans hk13
     have hr1:=HG1.out.lt
     have hAle:w.heap.size≤w1.heap.size:=HK1.out.size
     have HG3:Hid (GRg w3 w.heap.size mvg r2 (rem2.filter (fun x=>decide (x.1≠(c,s))))∧glen w3 mvg r2 < glen wr mvg r2):=by
      have b3:Below w.heap.size w1 w3:=hk13.below.mono hAle
      have r3:w3.heap[r2]? = w1.heap[r2]?:=hk13.block _ hr1 (fun x=>x)
      exact ⟨HG1.out.keep b3 r3,by rw [HG1.out.glen b3 r3];exact HLT.out⟩
     have HRow3:Hid (w3.ownsRow w.heap.size 36 2 u5 acc2.length (flatK encA 2 acc2.toArray).toList):=row_kp HRow1.out hk13 (fun i _ e=>e)
     clear hk3 hk13 hr1 hAle HA3 HH HG1 HLT HRow1
     cases bb with
     | true=>
      have HU3:Hid (UnR w w.heap.size mvg r2 (M.length+L.length) (fun y=>∀ b,(y.1,b) ∉ M) (fun x=>∃ b,(x,b)∈M∧UnP L x b) L u5 w3 (rem2.filter (fun x=>decide (x.1≠(c,s)))) acc2):=by
       refine HUN.out.skip HMEM.out ?_ HG.out.once HG3.out.1 HRow3.out HK3.out
       rcases HBB.out with ⟨_,b,hb⟩|⟨e,_⟩
       ·exact fun h=>h b hb
       ·cases e
      go_wp2_with fail
      go_roundw
      case rel=>exact ⟨_,acc2,HU3.out⟩
      case measure=>exact HG3.out.2
     | false=>
      have HB4:Hid (Blk (w3.alloc (.cells #[.int .i64 c,.int .i64 s] 36)) w3.heap.size [.int .i64 c,.int .i64 s] 36):=Blk.new w3 [.int .i64 c,.int .i64 s] _
      have HRow4:Hid ((w3.alloc (.cells #[.int .i64 c,.int .i64 s] 36)).ownsRow w.heap.size 36 2 u5 acc2.length (flatK encA 2 acc2.toArray).toList):=HRow3.out.alloc _
      have HLEN:Hid (acc2.length≤8192):=by show _≤_;have:=HUN.out.len;have:=HLL.out;have:=HLM.out;omega
      go_wp2_with (at_builtin;refine wpList_append_own _ rfl _ _ 96 rfl w.heap.size 36 i0 _ 2 16 Tryz.underlying96 hi hz0 hz1 hz2 rfl (by decide) _ _ _ rfl HRow4.out ⟨w3.heap.size,0,none⟩ 1 1 (encA (c,s)) rfl ?qc1 ?qc2 ?qc3 ?qc4 ?qc5 ?qc6 ?_)
      case qc1=>rfl
      case qc2=>
       intro j u hj
       rw [Addr.add_lit,Nat.zero_add]
       exact HB4.out.at'.trans hj
      case qc3=>exact encA_one _
      case qc4=>have:=HLEN.out;unfold maxLen;omega
      case qc5=>have:=HLEN.out;omega
      case qc6=>rw [World.size_alloc];have:=HK3.out.size;omega
      intro v5 w5 hrow5 hg5 hnil5
      have hob:=own_block HRow4.out
      have hr3:=HG3.out.1.lt
      have hne3:u5.ownBlock≠some r2:=row_ne HG3.out.1 HRow3.out
      have k45:=Kp.of_grown (S:=fun i=>u5.ownBlock=some i) hg5 (fun i e=>e)
      have HK5:Hid (Kp w w5 Nul):=(HK3.out.alloc _).trans' k45 (fun i hi e=>by have:=hob i e;omega)
      have b5:Below w.heap.size w3 w5:=⟨k45.os,k45.tape,k45.output,Nat.le_trans (by rw [World.size_alloc];omega) k45.size,fun i hi=>by
       have h3s:=HK3.out.size
       rw [k45.block i (by rw [World.size_alloc];omega) (fun e=>by have:=hob i e;omega),Below.heap_alloc _ _ _ (by omega)]⟩
      have r5:w5.heap[r2]? = w3.heap[r2]?:=by rw [k45.block r2 (by rw [World.size_alloc];omega) hne3,Below.heap_alloc _ _ _ hr3]
      have HU5:Hid (UnR w w.heap.size mvg r2 (M.length+L.length) (fun y=>∀ b,(y.1,b) ∉ M) (fun x=>∃ b,(x,b)∈M∧UnP L x b) L v5 w5 (rem2.filter (fun x=>decide (x.1≠(c,s)))) (acc2 ++ [(c,s)])):=by
       have hno:∀ b,((c,s),b) ∉ M:=by
        rcases HBB.out with ⟨e,_⟩|⟨_,h⟩
        ·cases e
        ·exact h
       exact HUN.out.take HMEM.out hno HG.out.once (fun ⟨b,hb,_⟩=>hno b hb) (HG3.out.1.keep b5 r5) hrow5 HK5.out
      have HME:Hid (glen w5 mvg r2 < glen wr mvg r2):=by show _ < _;rw [HG3.out.1.glen b5 r5];exact HG3.out.2
      clear hrow5 hg5 hnil5 k45 hob hr3 hne3 b5 r5
      go_wp2_with fail
      go_roundw
      case rel=>exact ⟨_,_,HU5.out⟩
      case measure=>exact HME.out
  ·intro c s ct sl w1 hmem hin hrg1 hlt1 hgr1 hsz1 hen
   have HROW:Hid (wr.ownsRow w.heap.size 36 2 u5 acc.length (flatK encA 2 acc.toArray).toList):=HUN.out.row
   have hne:=row_ne HRG.out HROW.out
   have k1:Kp wr w1 (fun i=>i=w.heap.size):=Kp.of_grown hgr1 (fun i e=>by cases e;rfl)
   have HK1:Hid (Kp w w1 Nul):=HUN.out.kp.trans' k1 (fun i hi e=>by have:i=w.heap.size:=e;omega)
   have HRow1:Hid (w1.ownsRow w.heap.size 36 2 u5 acc.length (flatK encA 2 acc.toArray).toList):=HROW.out.kept hgr1 (.inr hne)
   have hmM:=HUN.out.sub _ hmem
   have hi2:=HRM.out _ hmM
   obtain ⟨a,sa,bb,hlk,hinA,hax,hao,_,_,hcase⟩:=look_ct HG.out HGL.out hi2.1 hi2.2 HBg.out
   have hgd:=HGM.out _ hmM
   obtain ⟨z,hz⟩:∃ z,csame a ct=z:=⟨_,rfl⟩
   have HUP:Hid (UnP L (c,s) ct ↔ z=false):=by
    unfold UnP
    rcases hcase with ⟨_,hL⟩|⟨_,rfl,_,hno⟩
    ·constructor
     ·intro h
      cases z with
      | false=>rfl
      | true=>exact absurd ⟨a,hL,hz⟩ h
     ·rintro e ⟨a',h1,h2⟩
      rw [once_eq HG.out.once h1 hL,hz,e] at h2
      cases h2
    ·constructor
     ·intro _
      rw [← hz];exact csame_zero hgd.k
     ·rintro _ ⟨a',h1,_⟩
      exact hno a' h1
   obtain ⟨X3,X4,hX3,hX4,ht2,ht3,hv⟩:=vars2 w1 c s ct sl
   have HX3:Hid (((w1.alloc (.cells #[.int .i64 0,.int .i64 0] 36)).alloc (.cells zC21.toArray 46)).setCells w1.heap.size 0 [.int .i64 c,.int .i64 s]=X3):=hX3
   have HX4:Hid (X3.setCells (w1.heap.size+1) 0 (ct.cells sl)=X4):=hX4
   have T2:Hid (((w1.alloc (.cells #[.int .i64 0,.int .i64 0] 36)).alloc (.cells zC21.toArray 46)).there w1.heap.size 0 2):=ht2
   have T3:Hid (X3.there (w1.heap.size+1) 0 21):=ht3
   have OS:Hid (sl.oneCell'=true):=hin.one
   have k4:Kp w X4 Nul:=HK1.out.trans hv.kp
   have HQ4:Hid (Kp w1 X4 Nul):=hv.kp
   have HS:Hid (∀ wq,Kp X4 wq Nul→wq.cell? ⟨g,0,none⟩=some (.map mvg)∧wq.cell? ⟨w1.heap.size,0,none⟩=some (.int .i64 c)∧wq.cell? ⟨w1.heap.size,1,none⟩=some (.int .i64 s)∧(Instr.lookup 66 (.map mvg) (.agg #[.int .i64 c,.int .i64 s]) false).run Tryz.prog wq=.ok (a.val sa) wq∧wq.heap[w1.heap.size+1]? = some (.cells (ct.cells sl).toArray 46 (0,0))):=fun wq k=>⟨(HBg.out.kp (k4.trans k) (fun x=>x)).cell rfl,(hv.b0.kp k (fun x=>x)).cell rfl,(hv.b0.kp k (fun x=>x)).cell rfl,(lk_kp hlk (k4.trans k)).one wq (fun _ _=>rfl),hv.b1.kp k (fun x=>x)⟩
   have HSame:Hid (∀ wq,Kp X4 wq Nul→Calls Tryz.prog 50 #[a.val sa,ct.val sl] wq fun e w'=>e=.returned (.bool z)∧Kp X4 w' Nul):=fun wq k=>(gSame_at a ct sa sl (fun b=>0≤b) (fun b=>b < w.heap.size) wq hax hgd.x hao hgd.ok (hinA.kp (k4.trans k) (fun _ _ x=>x)) (hin.kp (hv.kp.trans k) (fun _ _ x=>x))).mono fun e w' ⟨q1,q2⟩=>⟨by rw [q1,hz],k.trans q2⟩
   have HG1:Hid (GRg w1 w.heap.size mvo w.heap.size (rem.filter (fun x=>decide (x.1≠(c,s))))):=by show GRg _ _ _ _ _;simpa using hrg1
   have HLT:Hid (glen w1 mvo w.heap.size < glen wr mvo w.heap.size):=hlt1
   have HMEM:Hid (((c,s),ct)∈rem):=hmem
   clear hne k1 hi2 hmM hrg1 hlt1 hgr1 hsz1 hmem hin hlk hinA hax hao hcase hgd hz hX3 hX4 ht2 ht3 hv k4
   go_wp2_with (first
    | (refine wpList_store_to rfl 36 (.tmp 6) (.tmp 17) rfl w1.heap.size 0 _ rfl rfl T2.out infoAddr2 (by simp [Value.oneCell']) X3 HX3.out ?_)
    | (refine wpList_store_to rfl 46 (.tmp 7) (.tmp 18) rfl (w1.heap.size+1) 0 _ rfl rfl T3.out infoContent (ct.one OS.out) X4 HX4.out ?_))
   refine wp_region_noPanic ?_
   refine wp_region_nul (W:=X4) (Kp.refl _ _) (by kernel_rfl) (by kernel_rfl) ?_
   refine quiet_run (some 19) rfl ?_ (by rfl) ?_ ?_
   rotate_left
   ·intro w' hk;obtain ⟨s0,s1,s2,s3,_⟩:=HS.out _ hk;clear hk;go_simp;try with_reducible rfl
   simp only [Act.put,List.setIfInBounds_toArray,List.set_cons_zero,List.set_cons_succ]
   refine quiet_run (some 20) rfl ?_ (by rfl) ?_ ?_
   rotate_left
   ·intro w' hk;obtain ⟨s0,s1,s2,s3,_⟩:=HS.out _ hk;clear hk;go_simp;try with_reducible rfl
   simp only [Act.put,List.setIfInBounds_toArray,List.set_cons_zero,List.set_cons_succ]
   refine quiet_run (some 21) rfl ?_ (by rfl) ?_ ?_
   rotate_left
   ·intro w' hk;obtain ⟨s0,s1,s2,s3,_⟩:=HS.out _ hk;clear hk;go_simp;try with_reducible rfl
   simp only [Act.put,List.setIfInBounds_toArray,List.set_cons_zero,List.set_cons_succ]
   refine quiet_run (some 22) rfl ?_ (by rfl) ?_ ?_
   rotate_left
   ·intro w' hk;obtain ⟨s0,s1,s2,s3,_⟩:=HS.out _ hk;clear hk;go_simp;try with_reducible rfl
   simp only [Act.put,List.setIfInBounds_toArray,List.set_cons_zero,List.set_cons_succ]
   refine quiet_run (some 23) rfl ?_ (by rfl) ?_ ?_
   rotate_left
   ·intro w' hk;obtain ⟨s0,s1,s2,s3,_⟩:=HS.out _ hk;clear hk;go_simp;try with_reducible rfl
   simp only [Act.put,List.setIfInBounds_toArray,List.set_cons_zero,List.set_cons_succ]
   refine quiet_run (some 24) rfl ?_ (by rfl) ?_ ?_
   rotate_left
   ·intro w' hk;obtain ⟨s0,s1,s2,s3,_⟩:=HS.out _ hk;clear hk;go_simp;try with_reducible rfl
   simp only [Act.put,List.setIfInBounds_toArray,List.set_cons_zero,List.set_cons_succ]
   refine quiet_run (some 25) rfl (.agg (ct.cells sl).toArray) (by rfl) (fun w' hk=>exec_load_content _ rfl rfl (HS.out w' hk).2.2.2.2 rfl) ?_
   simp only [Act.put,List.setIfInBounds_toArray,List.set_cons_zero,List.set_cons_succ]
   refine quiet_call (some 26) rfl 50 #[a.val sa,.agg (ct.cells sl).toArray] (.bool z) (by rfl) (fun w'=>by go_simp) (fun w' hk=>HSame.out w' hk) ?_
   simp only [Act.put,List.setIfInBounds_toArray,List.set_cons_zero,List.set_cons_succ]
   refine quiet_run (some 27) rfl (.bool !z) (by rfl) (fun w' hk=>by go_simp) ?_
   simp only [Act.put,List.setIfInBounds_toArray,List.set_cons_zero,List.set_cons_succ]
   refine wpQuiet_nil ?_
   intro w3 hk3
   obtain ⟨_,q0,q1,_,_⟩:=HS.out w3 hk3
   have hk13:Kp w1 w3 Nul:=HQ4.out.trans hk3
   have HK3:Hid (Kp w w3 Nul):=HK1.out.trans hk13
   have hr1:=HG1.out.lt
   have hAle:w.heap.size≤w1.heap.size:=HK1.out.size
   have HG3:Hid (GRg w3 w.heap.size mvo w.heap.size (rem.filter (fun x=>decide (x.1≠(c,s))))∧glen w3 mvo w.heap.size < glen wr mvo w.heap.size):=by
    have b3:Below w.heap.size w1 w3:=hk13.below.mono hAle
    have r3:w3.heap[w.heap.size]? = w1.heap[w.heap.size]?:=hk13.block _ hr1 (fun x=>x)
    exact ⟨HG1.out.keep b3 r3,by rw [HG1.out.glen b3 r3];exact HLT.out⟩
   have HRow3:Hid (w3.ownsRow w.heap.size 36 2 u5 acc.length (flatK encA 2 acc.toArray).toList):=row_kp HRow1.out hk13 (fun i _ e=>e)
   refine NoPanic.normal ?_
   clear hk3 hk13 hr1 hAle HS HSame HG1 HLT HRow1 HX3 HX4 T2 T3 OS HQ4
   cases z with
   | true=>
    have HU3:Hid (UnR w w.heap.size mvo w.heap.size M.length (fun y=>UnP L y.1 y.2) (fun _=>False) M u5 w3 (rem.filter (fun x=>decide (x.1≠(c,s)))) acc):=
     HUN.out.skip HMEM.out (fun h=>by have:=HUP.out.1 h;cases this) HO.out.once HG3.out.1 HRow3.out HK3.out
    go_wp2_with fail
    go_roundw
    case rel=>exact ⟨_,acc,HU3.out⟩
    case measure=>exact HG3.out.2
   | false=>
    have HB4:Hid (Blk (w3.alloc (.cells #[.int .i64 c,.int .i64 s] 36)) w3.heap.size [.int .i64 c,.int .i64 s] 36):=Blk.new w3 [.int .i64 c,.int .i64 s] _
    have HRow4:Hid ((w3.alloc (.cells #[.int .i64 c,.int .i64 s] 36)).ownsRow w.heap.size 36 2 u5 acc.length (flatK encA 2 acc.toArray).toList):=HRow3.out.alloc _
    have HLEN:Hid (acc.length≤8192):=by show _≤_;have:=HUN.out.len;have:=HLM.out;omega
    go_wp2_with (at_builtin;refine wpList_append_own _ rfl _ _ 96 rfl w.heap.size 36 i0 _ 2 16 Tryz.underlying96 hi hz0 hz1 hz2 rfl (by decide) _ _ _ rfl HRow4.out ⟨w3.heap.size,0,none⟩ 1 1 (encA (c,s)) rfl ?qc1 ?qc2 ?qc3 ?qc4 ?qc5 ?qc6 ?_)
    case qc1=>rfl
    case qc2=>
     intro j u hj
     exact hj
    case qc3=>exact encA_one _
    case qc4=>have:=HLEN.out;unfold maxLen;omega
    case qc5=>have:=HLEN.out;omega
    case qc6=>have:=HK3.out.size;omega
    intro v5 w5 hrow5 hg5 hnil5
    have hob:=own_block HRow4.out
    have hr3:=HG3.out.1.lt
    have hne3:u5.ownBlock≠some w.heap.size:=row_ne HG3.out.1 HRow3.out
    have k45:=Kp.of_grown (S:=fun i=>u5.ownBlock=some i) hg5 (fun i e=>e)
    have HK5:Hid (Kp w w5 Nul):=(HK3.out.alloc _).trans' k45 (fun i hi e=>by have:=hob i e;omega)
    have b5:Below w.heap.size w3 w5:=⟨k45.os,k45.tape,k45.output,Nat.le_trans (by rw [World.size_alloc];omega) k45.size,fun i hi=>by
     have h3s:=HK3.out.size
     rw [k45.block i (by rw [World.size_alloc];omega) (fun e=>by have:=hob i e;omega),Below.heap_alloc _ _ _ (by omega)]⟩
    have r5:w5.heap[w.heap.size]? = w3.heap[w.heap.size]?:=by rw [k45.block w.heap.size (by rw [World.size_alloc];omega) hne3,Below.heap_alloc _ _ _ hr3]
    have HU5:Hid (UnR w w.heap.size mvo w.heap.size M.length (fun y=>UnP L y.1 y.2) (fun _=>False) M v5 w5 (rem.filter (fun x=>decide (x.1≠(c,s)))) (acc ++ [(c,s)])):=
     HUN.out.take HMEM.out (HUP.out.2 (by first|rfl|trivial)) HO.out.once (fun h=>h) (HG3.out.1.keep b5 r5) hrow5 HK5.out
    have HME:Hid (glen w5 mvo w.heap.size < glen wr mvo w.heap.size):=by show _ < _;rw [HG3.out.1.glen b5 r5];exact HG3.out.2
    clear hrow5 hg5 hnil5 k45 hob hr3 hne3 b5 r5
    go_wp2_with fail
    go_roundw
    case rel=>exact ⟨_,_,HU5.out⟩
    case measure=>exact HME.out
def PutOf (M:List Cc) (x:Cc):Prop:=x∈M∨(x.2=ct0∧∀ b,(x.1,b) ∉ M)
structure PutsR (w w':World) (L M:List Cc) (v:Value) (ys:List (Cc×Value)):Prop where
 pts:Pts w' w.heap.size (fun _=>True) v ys
 strict:Strict (ys.map (·.1.1))
 mem:∀ x,x∈ys.map (·.1.1) ↔ Un L M x
 put:∀ y∈ys,PutOf M y.1
 kp:Kp w w' Nul
theorem nodup_le {α:Type} [DecidableEq α]:∀ (l m:List α),l.Nodup→(∀ x∈l,x∈m)→l.length≤m.length
 | [],m,_,_=>Nat.zero_le _
 | x :: l,m,hn,hs=>by
  rw [List.nodup_cons] at hn
  have hx:x∈m:=hs x List.mem_cons_self
  have h:=nodup_le l (m.erase x) hn.2 (fun y hy=>(List.mem_erase_of_ne (by rintro rfl;exact hn.1 hy)).2 (hs y (List.mem_cons_of_mem _ hy)))
  rw [List.length_erase_of_mem hx] at h
  have:0 < m.length:=List.length_pos_of_mem hx
  rw [List.length_cons];omega
theorem strict_nodup {U:List (Int×Int)} (h:Strict U):U.Nodup:=h.imp (fun {x y} h e=>by subst e;rw [swoA.irrefl] at h;cases h)
theorem puts_at (g o:Nat) (L M:List Cc) (w:World) (hg:GI 0 w g L) (ho:GI 0 w o M) (gL:∀ x∈L,Gd x.2) (gM:∀ x∈M,Gd x.2) (lL:L.length≤4096) (lM:M.length≤4096) :
  Calls Tryz.prog 31 #[.pointer (some ⟨g,0,none⟩),.pointer (some ⟨o,0,none⟩)] w fun e w'=>∃ ys v',e=.returned v'∧PutsR w w' L M v' ys:=by
 obtain ⟨mvo,bo⟩:=ho.blk
 have HUn:Hid (Calls Tryz.prog 51 #[.pointer (some ⟨g,0,none⟩),.pointer (some ⟨o,0,none⟩)] w fun e w'=>∃ U v',e=.returned v'∧CellsFrom w.heap.size w' v' U∧Strict U∧(∀ x,x∈U ↔ Un L M x)∧Kp w w' Nul):=unlike_at g o L M w hg ho gL gM lL lM
 have HI:Hid (∀ x,Un L M x→I64 x.1∧I64 x.2):=by
  have r1:∀ x∈L,I64 x.1.1∧I64 x.1.2:=by
   obtain ⟨_,⟨_,rfl⟩|⟨m,D,_,_,_,_,hm⟩⟩:=hg
   ·intro x hx;simp at hx
   ·exact hm.rng
  have r2:∀ x∈M,I64 x.1.1∧I64 x.1.2:=by
   obtain ⟨_,⟨_,rfl⟩|⟨m,D,_,_,_,_,hm⟩⟩:=ho
   ·intro x hx;simp at hx
   ·exact hm.rng
  rintro x (⟨b,h,_⟩|⟨⟨a,h⟩,_⟩)
  ·exact r2 _ h
  ·exact r1 _ h
 have HGet:Hid (∀ c s,I64 c→I64 s→∃ a,PutOf M ((c,s),a)∧∀ wq,Kp w wq Nul→Calls Tryz.prog 13 #[.pointer (some ⟨o,0,none⟩),.agg #[.int .i64 c,.int .i64 s]] wq fun e w'=>∃ sl' fp,e=.returned (a.val sl')∧Own w' wq.heap.size sl' a.t fp∧Kp wq w' Nul):=fun c s hc hs=>by
  obtain ⟨a,sa,bb,hlk,hinA,hax,hao,hasz,hacp,hcase⟩:=look_ct ho gM hc hs bo
  refine ⟨a,?_,fun wq k=>get_own o c s mvo (a.val sa) bb a wq (lk_kp hlk k) (fun wq' k'=>?_)⟩
  ·rcases hcase with ⟨_,h⟩|⟨_,h1,_,h2⟩
   ·exact .inl h
   ·exact .inr ⟨h1,h2⟩
  ·refine (gCopy_at a sa (fun b=>0≤b) wq' hax hasz hao (hinA.kp (k.trans k') (fun _ _ x=>x))).mono ?_
   rintro e w' ⟨sl',fp,rfl,h1,h2⟩
   rw [hacp] at h1 ⊢
   exact ⟨sl',fp,rfl,h1,Kp.of_below h2⟩
 have HUL:Hid (∀ U,Strict U→(∀ x,x∈U ↔ Un L M x)→U.length≤8192):=fun U h1 h2=>by
  have hnd:U.Nodup:=strict_nodup h1
  have hsub:∀ x∈U,x∈(L.map (·.1)) ++ (M.map (·.1)):=fun x hx=>by
   rcases (h2 x).1 hx with ⟨b,h,_⟩|⟨⟨a,h⟩,_⟩
   ·exact List.mem_append_right _ (List.mem_map.2 ⟨_,h,rfl⟩)
   ·exact List.mem_append_left _ (List.mem_map.2 ⟨_,h,rfl⟩)
  have:=nodup_le _ _ hnd hsub
  rw [List.length_append,List.length_map,List.length_map] at this
  omega
 obtain ⟨i0,hi,hz0,hz1,hz2⟩:=infoPutI
 clear hg ho gL gM lL lM bo
 go_enter Tryz.func31,Tryz.ntmps31
 go_wp2_with fail
 refine HUn.out.mono ?_
 rintro e w2 ⟨U,v2,rfl,⟨ua,uc,rfl,hcell⟩,hst,hmem,hk2⟩
 have HK2:Hid (Kp w w2 Nul):=hk2
 have HST:Hid (Strict U):=hst
 have HMEM:Hid (∀ x,x∈U ↔ Un L M x):=hmem
 have HLU:Hid (U.length≤8192):=HUL.out U hst hmem
 have HCell:Hid ((ua=none∧U=[])∨∃ b,ua=some ⟨b,0,none⟩∧w.heap.size≤b∧CellsAt w2 b 0 U):=hcell
 clear hk2 hst hmem hcell HUn HUL
 generalize hn:U.length=n at *
 have HN:Hid (U.length=n):=hn
 clear hn
 go_wp2_with fail
 go_loopw [5,18] (fun v i wr=>∃ (q:Nat) (ys:List (Cc×Value)),q≤n∧i=.int .i64 q∧ys.map (·.1.1)=U.take q∧(∀ y∈ys,PutOf M y.1)∧Pts wr w2.heap.size (fun i=>v.ownBlock≠some i) v ys∧Kp w2 wr Nul) (fun _ i _=>n - (RowKit.intOf i).toNat)
 case atStart=>exact ⟨0,[],Nat.zero_le _,rfl,rfl,fun y h=>by simp at h,Pts.nil _ _ _,Kp.refl _ _⟩
 case round=>
  obtain ⟨q,ys,hq,rfl,hmap,hput,hpts,hkq⟩:=hrel
  have HMAP:Hid (ys.map (·.1.1)=U.take q):=hmap
  have HPUT:Hid (∀ y∈ys,PutOf M y.1):=hput
  have HPTS:Hid (Pts wr w2.heap.size (fun i=>u5.ownBlock≠some i) u5 ys):=hpts
  have HKQ:Hid (Kp w2 wr Nul):=hkq
  have hysl:ys.length=min q n:=by rw [← HN.out];have:=congrArg List.length hmap;simpa using this
  have HYL:Hid (ys.length=q):=by show _=_;omega
  clear hmap hput hpts hkq hysl
  by_cases hlt:q < n
  ·have hqt:q < U.length:=by rw [HN.out];exact hlt
   obtain ⟨b,rfl,hbw,hca⟩:∃ b,ua=some ⟨b,0,none⟩∧w.heap.size≤b∧CellsAt w2 b 0 U:=by
    rcases HCell.out with ⟨_,h⟩|h
    ·rw [h] at hqt;simp at hqt
    ·exact h
   obtain ⟨x0,x1⟩:=(hca.kp HKQ.out (fun x=>x)) q U[q] (List.getElem?_eq_getElem hqt)
   obtain ⟨⟨c,s⟩,hcs⟩:∃ cs,U[q]=cs:=⟨_,rfl⟩
   rw [hcs] at x0 x1
   simp only at x0 x1
   have hun:Un L M (c,s):=(HMEM.out _).1 (hcs ▸ List.getElem_mem hqt)
   have hii:=HI.out _ hun
   obtain ⟨a,hpa,hget⟩:=HGet.out c s hii.1 hii.2
   have HPA:Hid (PutOf M ((c,s),a)):=hpa
   have HGT:Hid (∀ wq,Kp w wq Nul→Calls Tryz.prog 13 #[.pointer (some ⟨o,0,none⟩),.agg #[.int .i64 c,.int .i64 s]] wq fun e w'=>∃ sl' fp,e=.returned (a.val sl')∧Own w' wq.heap.size sl' a.t fp∧Kp wq w' Nul):=hget
   have HTK:Hid (U.take (q+1)=U.take q ++ [(c,s)]):=by show _=_;rw [List.take_add_one,List.getElem?_eq_getElem hqt,hcs];rfl
   have hkb:(q:Int)+1≤9223372036854775807:=by have:=HLU.out;omega
   have hq0:(0:Int)≤(q:Int):=by omega
   have hqn:(q:Int) < (n:Int):=by omega
   have x0':wr.cell? ⟨b,q * 2,none⟩=some (.int .i64 c):=by rw [Nat.zero_add] at x0;exact x0
   have x1':wr.cell? ⟨b,q * 2+1,none⟩=some (.int .i64 s):=by rw [Nat.zero_add] at x1;exact x1
   obtain ⟨pv,cv,rfl,_⟩:=HPTS.out.slice
   clear hca hun hii hpa hget hcs hqt x0 x1 hbw
   go_wp2_with fail
   have hA:Blk (wr.alloc (.cells #[.int .i64 c,.int .i64 s] 36)) wr.heap.size [.int .i64 c,.int .i64 s] 36:=Blk.new wr _ _
   have HA:Hid (∀ wq,Kp (wr.alloc (.cells #[.int .i64 c,.int .i64 s] 36)) wq Nul→wq.cell? ⟨wr.heap.size,0,none⟩=some (.int .i64 c)∧wq.cell? ⟨wr.heap.size,1,none⟩=some (.int .i64 s)):=fun wq k=>⟨(hA.kp k (fun x=>x)).cell rfl,(hA.kp k (fun x=>x)).cell rfl⟩
   clear hA x0' x1'
   refine wp_region_noPanic ?_
   refine wp_region_hel (fun w':World=>w'.cell? ⟨wr.heap.size,0,none⟩=some (.int .i64 c)∧w'.cell? ⟨wr.heap.size,1,none⟩=some (.int .i64 s)) (by kernel_rfl) (HA.out _ ((Kp.refl _ _).drew)) (fun hHeld=>?_)
   refine wpH_takes (i:=0) (v:=?_) (some 22) rfl rfl (by kernel_rfl) (by kernel_rfl) (by kernel_rfl) (fun _ _ _ h=>h) (Or.inl ⟨by rfl,?_⟩) hHeld ?_
   rotate_left
   ·intro w' hSw;obtain ⟨s0,s1⟩:=hSw;go_simp;try with_reducible rfl
   simp only [Act.put,List.setIfInBounds_toArray,List.set_cons_zero,List.set_cons_succ]
   refine wpH_takes (i:=1) (v:=?_) (some 23) rfl rfl (by kernel_rfl) (by kernel_rfl) (by kernel_rfl) (fun _ _ _ h=>h) (Or.inl ⟨by rfl,?_⟩) hHeld ?_
   rotate_left
   ·intro w' hSw;obtain ⟨s0,s1⟩:=hSw;go_simp;try with_reducible rfl
   simp only [Act.put,List.setIfInBounds_toArray,List.set_cons_zero,List.set_cons_succ]
   refine wpH_takes (i:=2) (v:=?_) (some 24) rfl rfl (by kernel_rfl) (by kernel_rfl) (by kernel_rfl) (fun _ _ _ h=>h) (Or.inl ⟨by rfl,?_⟩) hHeld ?_
   rotate_left
   ·intro w' hSw;obtain ⟨s0,s1⟩:=hSw;go_simp;try with_reducible rfl
   simp only [Act.put,List.setIfInBounds_toArray,List.set_cons_zero,List.set_cons_succ]
   refine wpH_takes (i:=3) (v:=?_) (some 25) rfl rfl (by kernel_rfl) (by kernel_rfl) (by kernel_rfl) (fun _ _ _ h=>h) (Or.inl ⟨by rfl,?_⟩) hHeld ?_
   rotate_left
   ·intro w' hSw;obtain ⟨s0,s1⟩:=hSw;go_simp;try with_reducible rfl
   simp only [Act.put,List.setIfInBounds_toArray,List.set_cons_zero,List.set_cons_succ]
   refine wpH_step (i:=4) (by kernel_rfl) rfl rfl (fun K hK=>?_)
   go_simp
   have kq:Kp w (wr.alloc (.cells #[.int .i64 c,.int .i64 s] 36)).drew Nul:=((HK2.out.trans HKQ.out).alloc _).drew
   refine (HGT.out _ kq).mono ?_
   rintro e w4 ⟨s4,f4,rfl,hown4,hk4⟩
   refine hK.out _ _ (HA.out w4 ((Kp.refl _ _).drew.trans hk4)) (fun hHeld2=>?_)
   clear hK K hHeld kq
   refine wpH_step (i:=5) (by kernel_rfl) rfl rfl (fun K hK=>?_)
   go_simp
   refine hK.out _ _ hHeld2 (fun _=>?_)
   clear hK K
   have HK4:Hid (Kp wr w4 Nul):=((Kp.refl wr Nul).alloc _).drew.trans hk4
   have HO4:Hid (NdIn w4 (fun i=>(Value.slice pv ys.length cv).ownBlock≠some i) s4 a.t):=hown4.own.isIn (fun i hi e=>by
    have h1:=(hown4.new i hi).1
    have h2:=(HPTS.out.row.lt i e).2
    have h3:(wr.alloc (.cells #[.int .i64 c,.int .i64 s] 36)).drew.heap.size=wr.heap.size+1:=World.size_alloc _ _
    omega)
   have OS4:Hid (s4.oneCell'=true):=hown4.own.one
   have hcell5:=HA.out (w4.alloc (.cells (ptCells ((c,s),a) s4).toArray 84)) (((Kp.refl _ _).drew.trans hk4).alloc _)
   have hw2s:w2.heap.size≤w4.heap.size:=Nat.le_trans HKQ.out.size HK4.out.size
   have HRow:Hid ((w4.alloc (.cells (ptCells ((c,s),a) s4).toArray 84)).ownsRow w2.heap.size 84 23 (.slice pv ys.length cv) ys.length (rowP ys)):=((HPTS.out.kp HK4.out).row).alloc _
   have HB5:Hid (Blk (w4.alloc (.cells (ptCells ((c,s),a) s4).toArray 84)) w4.heap.size (ptCells ((c,s),a) s4) 84):=Blk.new w4 _ _
   have HA5:Hid (∀ wq:World,(∀ i,i < w4.heap.size→i < w2.heap.size∨i=wr.heap.size→wq.heap[i]? = w4.heap[i]?)→wq.cell? ⟨wr.heap.size,0,none⟩=some (.int .i64 c)∧wq.cell? ⟨wr.heap.size,1,none⟩=some (.int .i64 s)):=fun wq h=>by
    have e4:=HA.out w4 ((Kp.refl _ _).drew.trans hk4)
    have hl:=cell_lt e4.1
    have e:=h wr.heap.size hl (.inr rfl)
    simp only [World.cell?] at e4 ⊢
    rw [e];exact e4
   have hwrB:w2.heap.size≤wr.heap.size:=HKQ.out.size
   have HNE:Hid ((Value.slice pv ys.length cv).ownBlock≠some wr.heap.size):=fun e=>by
    have:=(HPTS.out.row.lt _ e).2
    omega
   clear hk4 hown4 hHeld2 HA
   refine wpH_step (i:=6) (by kernel_rfl) rfl rfl (fun K hK=>?_)
   go_simp
   refine hK.out _ _ hcell5 (fun hHeld3=>?_)
   clear hK K hcell5
   refine wpH_step (i:=7) (by kernel_rfl) rfl rfl (fun K hK=>?_)
   refine wp_append_tell _ (.tmp 22) (.tmp 28) 29 rfl w2.heap.size 84 i0 _ 23 200 Tryz.underlying29 hi hz0 hz1 hz2 rfl (by decide) (.slice pv ys.length cv) ys.length (rowP ys) rfl HRow.out ⟨w4.heap.size,0,none⟩ 1 1 (ptCells ((c,s),a) s4) rfl rfl ?c1 ?c2 (by decide) ?c3 ?c4 ?c5 ?_
   case c1=>
    intro j u hj
    rw [addr_at,Nat.zero_add]
    exact HB5.out.cell hj
   case c2=>exact pt_one _ OS4.out
   case c3=>rw [HYL.out];unfold maxLen;have:=HLU.out;omega
   case c4=>rw [HYL.out];have:=HLU.out;omega
   case c5=>rw [World.size_alloc];omega
   intro g6 c6 w6 hrow6 hgr6 htell6
   have hob:∀ i,(Value.slice pv ys.length cv).ownBlock=some i→w2.heap.size≤i:=fun i e=>own_block HRow.out i e
   have k46:Kp w4 w6 (fun i=>(Value.slice pv ys.length cv).ownBlock=some i):=((Kp.refl w4 _).alloc _).trans (Kp.of_grown hgr6 (fun i e=>e))
   have HK6:Hid (Kp w2 w6 Nul):=(HKQ.out.trans HK4.out).trans' k46 (fun i hi e=>by have:=hob i e;omega)
   have hcell6:=HA5.out w6 (fun i hi h=>k46.block i hi (fun e=>by
    rcases h with h|h
    ·have:=hob i e;omega
    ·subst h;exact HNE.out e))
   have HP6:Hid (Pts w6 w2.heap.size (fun i=>(Value.slice (some ⟨g6,0,none⟩) (ys.length+1) c6).ownBlock≠some i) (.slice (some ⟨g6,0,none⟩) (ys.length+1) c6) (ys ++ [(((c,s),a),s4)])):=by
    refine ⟨by rw [rowP_snoc,List.length_append];exact hrow6,fun y hy=>?_⟩
    have hT:∀ sl t,NdIn w4 (fun i=>(Value.slice pv ys.length cv).ownBlock≠some i) sl t→NdIn w6 (fun i=>(Value.slice (some ⟨g6,0,none⟩) (ys.length+1) c6).ownBlock≠some i) sl t:=fun sl t h=>
     h.mono (fun i hi hl=>⟨k46.block i hl hi,fun e=>by
      have e':g6=i:=by simpa [Value.ownBlock] using e
      subst e'
      rcases htell6 with q|q
      ·exact hi q
      ·rw [World.size_alloc] at q;omega⟩)
    rcases List.mem_append.1 hy with hy|hy
    ·exact hT _ _ ((HPTS.out.kp HK4.out).tree y hy)
    ·rw [List.mem_singleton] at hy
     subst hy
     exact hT _ _ HO4.out
   have HM6:Hid ((ys ++ [(((c,s),a),s4)]).map (·.1.1)=U.take (q+1)):=by show _=_;rw [List.map_append,HMAP.out,HTK.out];rfl
   have HPU6:Hid (∀ y∈ys ++ [(((c,s),a),s4)],PutOf M y.1):=fun y hy=>by
    rcases List.mem_append.1 hy with hy|hy
    ·exact HPUT.out y hy
    ·rw [List.mem_singleton] at hy
     subst hy
     exact HPA.out
   refine hK.out _ _ hcell6 (fun hHeld4=>?_)
   clear hK K hrow6 hgr6 htell6 hob k46 hcell6 hHeld3 HA5 HNE HRow HB5 HO4 hw2s hwrB
   refine wpH_takes (i:=8) (v:=?_) (some 5) rfl rfl (by kernel_rfl) (by kernel_rfl) (by kernel_rfl) (fun _ _ _ h=>h) (Or.inl ⟨by rfl,?_⟩) hHeld4 ?_
   rotate_left
   ·intro w' hSw;clear hSw;go_simp;try with_reducible rfl
   simp only [Act.put,List.setIfInBounds_toArray]
   refine wpAnyH_done (by kernel_rfl) ?_ _
   refine NoPanic.normal ?_
   clear hHeld4
   go_wp2_with fail
   go_roundw
   case rel=>exact ⟨q+1,_,by omega,by go_num,HM6.out,HPU6.out,HP6.out,HK6.out⟩
   case measure=>simp only [RowKit.intOf];omega
  ·have hqe:q=n:=by omega
   subst hqe
   have hqn:¬ ((q:Int) < (q:Int)):=by omega
   have hall:U.take q=U:=by rw [List.take_of_length_le (by rw [HN.out];exact Nat.le_refl _)]
   have HEND:Hid (PutsR w wr L M u5 ys):=by
    refine ⟨⟨?_,(HPTS.out.mono (fun _ _ _=>trivial)).tree⟩,?_,?_,HPUT.out,HK2.out.trans HKQ.out⟩
    ·refine ⟨HPTS.out.row.1,?_⟩
     rcases HPTS.out.row.2 with h|⟨g',c',cur,h1,h2,h3⟩
     ·exact .inl h
     ·exact .inr ⟨g',c',cur,h1,Nat.le_trans HK2.out.size h2,h3⟩
    ·rw [HMAP.out,hall];exact HST.out
    ·rw [HMAP.out,hall];exact HMEM.out
   clear HPTS HMAP HPUT hall
   go_wp2_with fail
   go_ret
   exact ⟨ys,u5,rfl,HEND.out⟩
structure PtO (w:World) (B:Nat) (v:Value) (zs:List ((Cc×Value)×List Nat)):Prop where
 own:∀ z∈zs,Own w B z.1.2 z.1.1.2.t z.2
 off:∀ z∈zs,∀ i∈z.2,v.ownBlock≠some i
 dis:zs.Pairwise fun x y=>∀ i∈x.2,i ∉ y.2
theorem PtO.nil (w:World) (B:Nat) (v:Value):PtO w B v []:=⟨fun z h=>by simp at h,fun z h=>by simp at h,List.Pairwise.nil⟩
theorem PtO.le {w:World} {B B':Nat} {v:Value} {zs:List ((Cc×Value)×List Nat)} (h:PtO w B v zs) (hB:B'≤B):PtO w B' v zs:=⟨fun z hz=>(h.own z hz).le hB,h.off,h.dis⟩
theorem PtO.snoc {wr w4 w6:World} {B C:Nat} {v v':Value} {zs:List ((Cc×Value)×List Nat)} {x:Cc} {s4:Value} {f4:List Nat} (h:PtO wr B v zs) (k4:Kp wr w4 Nul) (k46:Kp w4 w6 (fun i=>v.ownBlock=some i)) (ho:Own w4 C s4 x.2.t f4) (hC:wr.heap.size≤C) (hB:B≤wr.heap.size)
  (hlt:∀ i,v.ownBlock=some i→i < C) (ht:∀ i,v'.ownBlock=some i→v.ownBlock=some i∨w4.heap.size≤i):PtO w6 B v' (zs ++ [((x,s4),f4)]):=by
 refine ⟨fun z hz=>?_,fun z hz i hi e=>?_,List.pairwise_append.2 ⟨h.dis,List.pairwise_singleton _ _,fun z hz y hy i hi hj=>?_⟩⟩
 ·rcases List.mem_append.1 hz with hz|hz
  ·exact ((h.own z hz).kp k4 (fun _ _ q=>q)).kp k46 (h.off z hz)
  ·rw [List.mem_singleton] at hz
   subst hz
   exact (ho.kp k46 (fun i hi e=>by have h1:=(ho.new i hi).1;have h2:=hlt i e;omega)).le (by omega)
 ·rcases List.mem_append.1 hz with hz|hz
  ·rcases ht i e with q|q
   ·exact h.off z hz i hi q
   ·have h1:=((h.own z hz).new i hi).2
    have h2:=k4.size
    omega
  ·rw [List.mem_singleton] at hz
   subst hz
   rcases ht i e with q|q
   ·have h1:=(ho.new i hi).1
    have h2:=hlt i q
    omega
   ·have:=(ho.new i hi).2
    omega
 ·rw [List.mem_singleton] at hy
  subst hy
  have h1:=((h.own z hz).new i hi).2
  have h2:=(ho.new i hj).1
  omega
theorem puts_own (g o:Nat) (L M:List Cc) (w:World) (hg:GI 0 w g L) (ho:GI 0 w o M) (gL:∀ x∈L,Gd x.2) (gM:∀ x∈M,Gd x.2) (lL:L.length≤4096) (lM:M.length≤4096) :
  Calls Tryz.prog 31 #[.pointer (some ⟨g,0,none⟩),.pointer (some ⟨o,0,none⟩)] w fun e w'=>∃ zs v',e=.returned v'∧PutsR w w' L M v' (zs.map (·.1))∧PtO w' w.heap.size v' zs:=by
 obtain ⟨mvo,bo⟩:=ho.blk
 have HUn:Hid (Calls Tryz.prog 51 #[.pointer (some ⟨g,0,none⟩),.pointer (some ⟨o,0,none⟩)] w fun e w'=>∃ U v',e=.returned v'∧CellsFrom w.heap.size w' v' U∧Strict U∧(∀ x,x∈U ↔ Un L M x)∧Kp w w' Nul):=unlike_at g o L M w hg ho gL gM lL lM
 have HI:Hid (∀ x,Un L M x→I64 x.1∧I64 x.2):=by
  have r1:∀ x∈L,I64 x.1.1∧I64 x.1.2:=by
   obtain ⟨_,⟨_,rfl⟩|⟨m,D,_,_,_,_,hm⟩⟩:=hg
   ·intro x hx;simp at hx
   ·exact hm.rng
  have r2:∀ x∈M,I64 x.1.1∧I64 x.1.2:=by
   obtain ⟨_,⟨_,rfl⟩|⟨m,D,_,_,_,_,hm⟩⟩:=ho
   ·intro x hx;simp at hx
   ·exact hm.rng
  rintro x (⟨b,h,_⟩|⟨⟨a,h⟩,_⟩)
  ·exact r2 _ h
  ·exact r1 _ h
 have HGet:Hid (∀ c s,I64 c→I64 s→∃ a,PutOf M ((c,s),a)∧∀ wq,Kp w wq Nul→Calls Tryz.prog 13 #[.pointer (some ⟨o,0,none⟩),.agg #[.int .i64 c,.int .i64 s]] wq fun e w'=>∃ sl' fp,e=.returned (a.val sl')∧Own w' wq.heap.size sl' a.t fp∧Kp wq w' Nul):=fun c s hc hs=>by
  obtain ⟨a,sa,bb,hlk,hinA,hax,hao,hasz,hacp,hcase⟩:=look_ct ho gM hc hs bo
  refine ⟨a,?_,fun wq k=>get_own o c s mvo (a.val sa) bb a wq (lk_kp hlk k) (fun wq' k'=>?_)⟩
  ·rcases hcase with ⟨_,h⟩|⟨_,h1,_,h2⟩
   ·exact .inl h
   ·exact .inr ⟨h1,h2⟩
  ·refine (gCopy_at a sa (fun b=>0≤b) wq' hax hasz hao (hinA.kp (k.trans k') (fun _ _ x=>x))).mono ?_
   rintro e w' ⟨sl',fp,rfl,h1,h2⟩
   rw [hacp] at h1 ⊢
   exact ⟨sl',fp,rfl,h1,Kp.of_below h2⟩
 have HUL:Hid (∀ U,Strict U→(∀ x,x∈U ↔ Un L M x)→U.length≤8192):=fun U h1 h2=>by
  have hnd:U.Nodup:=strict_nodup h1
  have hsub:∀ x∈U,x∈(L.map (·.1)) ++ (M.map (·.1)):=fun x hx=>by
   rcases (h2 x).1 hx with ⟨b,h,_⟩|⟨⟨a,h⟩,_⟩
   ·exact List.mem_append_right _ (List.mem_map.2 ⟨_,h,rfl⟩)
   ·exact List.mem_append_left _ (List.mem_map.2 ⟨_,h,rfl⟩)
  have:=nodup_le _ _ hnd hsub
  rw [List.length_append,List.length_map,List.length_map] at this
  omega
 obtain ⟨i0,hi,hz0,hz1,hz2⟩:=infoPutI
 clear hg ho gL gM lL lM bo
 go_enter Tryz.func31,Tryz.ntmps31
 go_wp2_with fail
 refine HUn.out.mono ?_
 rintro e w2 ⟨U,v2,rfl,⟨ua,uc,rfl,hcell⟩,hst,hmem,hk2⟩
 have HK2:Hid (Kp w w2 Nul):=hk2
 have HST:Hid (Strict U):=hst
 have HMEM:Hid (∀ x,x∈U ↔ Un L M x):=hmem
 have HLU:Hid (U.length≤8192):=HUL.out U hst hmem
 have HCell:Hid ((ua=none∧U=[])∨∃ b,ua=some ⟨b,0,none⟩∧w.heap.size≤b∧CellsAt w2 b 0 U):=hcell
 clear hk2 hst hmem hcell HUn HUL
 generalize hn:U.length=n at *
 have HN:Hid (U.length=n):=hn
 clear hn
 go_wp2_with fail
 go_loopw [5,18] (fun v i wr=>∃ (q:Nat) (zs:List ((Cc×Value)×List Nat)) (ys:List (Cc×Value)),zs.map (·.1)=ys∧PtO wr w2.heap.size v zs∧q≤n∧i=.int .i64 q∧ys.map (·.1.1)=U.take q∧(∀ y∈ys,PutOf M y.1)∧Pts wr w2.heap.size (fun i=>v.ownBlock≠some i) v ys∧Kp w2 wr Nul) (fun _ i _=>n - (RowKit.intOf i).toNat)
 case atStart=>exact ⟨0,[],[],rfl,PtO.nil _ _ _,Nat.zero_le _,rfl,rfl,fun y h=>by simp at h,Pts.nil _ _ _,Kp.refl _ _⟩
 case round=>
  obtain ⟨q,zs,ys,hzy,hpo,hq,rfl,hmap,hput,hpts,hkq⟩:=hrel
  have HMAP:Hid (ys.map (·.1.1)=U.take q):=hmap
  have HZY:Hid (zs.map (·.1)=ys):=hzy
  have HPO:Hid (PtO wr w2.heap.size u5 zs):=hpo
  have HPUT:Hid (∀ y∈ys,PutOf M y.1):=hput
  have HPTS:Hid (Pts wr w2.heap.size (fun i=>u5.ownBlock≠some i) u5 ys):=hpts
  have HKQ:Hid (Kp w2 wr Nul):=hkq
  have hysl:ys.length=min q n:=by rw [← HN.out];have:=congrArg List.length hmap;simpa using this
  have HYL:Hid (ys.length=q):=by show _=_;omega
  clear hmap hput hpts hkq hysl hzy hpo
  by_cases hlt:q < n
  ·have hqt:q < U.length:=by rw [HN.out];exact hlt
   obtain ⟨b,rfl,hbw,hca⟩:∃ b,ua=some ⟨b,0,none⟩∧w.heap.size≤b∧CellsAt w2 b 0 U:=by
    rcases HCell.out with ⟨_,h⟩|h
    ·rw [h] at hqt;simp at hqt
    ·exact h
   obtain ⟨x0,x1⟩:=(hca.kp HKQ.out (fun x=>x)) q U[q] (List.getElem?_eq_getElem hqt)
   obtain ⟨⟨c,s⟩,hcs⟩:∃ cs,U[q]=cs:=⟨_,rfl⟩
   rw [hcs] at x0 x1
   simp only at x0 x1
   have hun:Un L M (c,s):=(HMEM.out _).1 (hcs ▸ List.getElem_mem hqt)
   have hii:=HI.out _ hun
   obtain ⟨a,hpa,hget⟩:=HGet.out c s hii.1 hii.2
   have HPA:Hid (PutOf M ((c,s),a)):=hpa
   have HGT:Hid (∀ wq,Kp w wq Nul→Calls Tryz.prog 13 #[.pointer (some ⟨o,0,none⟩),.agg #[.int .i64 c,.int .i64 s]] wq fun e w'=>∃ sl' fp,e=.returned (a.val sl')∧Own w' wq.heap.size sl' a.t fp∧Kp wq w' Nul):=hget
   have HTK:Hid (U.take (q+1)=U.take q ++ [(c,s)]):=by show _=_;rw [List.take_add_one,List.getElem?_eq_getElem hqt,hcs];rfl
   have hkb:(q:Int)+1≤9223372036854775807:=by have:=HLU.out;omega
   have hq0:(0:Int)≤(q:Int):=by omega
   have hqn:(q:Int) < (n:Int):=by omega
   have x0':wr.cell? ⟨b,q * 2,none⟩=some (.int .i64 c):=by rw [Nat.zero_add] at x0;exact x0
   have x1':wr.cell? ⟨b,q * 2+1,none⟩=some (.int .i64 s):=by rw [Nat.zero_add] at x1;exact x1
   obtain ⟨pv,cv,rfl,_⟩:=HPTS.out.slice
   clear hca hun hii hpa hget hcs hqt x0 x1 hbw
   go_wp2_with fail
   have hA:Blk (wr.alloc (.cells #[.int .i64 c,.int .i64 s] 36)) wr.heap.size [.int .i64 c,.int .i64 s] 36:=Blk.new wr _ _
   have HA:Hid (∀ wq,Kp (wr.alloc (.cells #[.int .i64 c,.int .i64 s] 36)) wq Nul→wq.cell? ⟨wr.heap.size,0,none⟩=some (.int .i64 c)∧wq.cell? ⟨wr.heap.size,1,none⟩=some (.int .i64 s)):=fun wq k=>⟨(hA.kp k (fun x=>x)).cell rfl,(hA.kp k (fun x=>x)).cell rfl⟩
   clear hA x0' x1'
   refine wp_region_noPanic ?_
   refine wp_region_hel (fun w':World=>w'.cell? ⟨wr.heap.size,0,none⟩=some (.int .i64 c)∧w'.cell? ⟨wr.heap.size,1,none⟩=some (.int .i64 s)) (by kernel_rfl) (HA.out _ ((Kp.refl _ _).drew)) (fun hHeld=>?_)
   refine wpH_takes (i:=0) (v:=?_) (some 22) rfl rfl (by kernel_rfl) (by kernel_rfl) (by kernel_rfl) (fun _ _ _ h=>h) (Or.inl ⟨by rfl,?_⟩) hHeld ?_
   rotate_left
   ·intro w' hSw;obtain ⟨s0,s1⟩:=hSw;go_simp;try with_reducible rfl
   simp only [Act.put,List.setIfInBounds_toArray,List.set_cons_zero,List.set_cons_succ]
   refine wpH_takes (i:=1) (v:=?_) (some 23) rfl rfl (by kernel_rfl) (by kernel_rfl) (by kernel_rfl) (fun _ _ _ h=>h) (Or.inl ⟨by rfl,?_⟩) hHeld ?_
   rotate_left
   ·intro w' hSw;obtain ⟨s0,s1⟩:=hSw;go_simp;try with_reducible rfl
   simp only [Act.put,List.setIfInBounds_toArray,List.set_cons_zero,List.set_cons_succ]
   refine wpH_takes (i:=2) (v:=?_) (some 24) rfl rfl (by kernel_rfl) (by kernel_rfl) (by kernel_rfl) (fun _ _ _ h=>h) (Or.inl ⟨by rfl,?_⟩) hHeld ?_
   rotate_left
   ·intro w' hSw;obtain ⟨s0,s1⟩:=hSw;go_simp;try with_reducible rfl
   simp only [Act.put,List.setIfInBounds_toArray,List.set_cons_zero,List.set_cons_succ]
   refine wpH_takes (i:=3) (v:=?_) (some 25) rfl rfl (by kernel_rfl) (by kernel_rfl) (by kernel_rfl) (fun _ _ _ h=>h) (Or.inl ⟨by rfl,?_⟩) hHeld ?_
   rotate_left
   ·intro w' hSw;obtain ⟨s0,s1⟩:=hSw;go_simp;try with_reducible rfl
   simp only [Act.put,List.setIfInBounds_toArray,List.set_cons_zero,List.set_cons_succ]
   refine wpH_step (i:=4) (by kernel_rfl) rfl rfl (fun K hK=>?_)
   go_simp
   have kq:Kp w (wr.alloc (.cells #[.int .i64 c,.int .i64 s] 36)).drew Nul:=((HK2.out.trans HKQ.out).alloc _).drew
   refine (HGT.out _ kq).mono ?_
   rintro e w4 ⟨s4,f4,rfl,hown4,hk4⟩
   refine hK.out _ _ (HA.out w4 ((Kp.refl _ _).drew.trans hk4)) (fun hHeld2=>?_)
   clear hK K hHeld kq
   refine wpH_step (i:=5) (by kernel_rfl) rfl rfl (fun K hK=>?_)
   go_simp
   refine hK.out _ _ hHeld2 (fun _=>?_)
   clear hK K
   have HK4:Hid (Kp wr w4 Nul):=((Kp.refl wr Nul).alloc _).drew.trans hk4
   have HO4:Hid (NdIn w4 (fun i=>(Value.slice pv ys.length cv).ownBlock≠some i) s4 a.t):=hown4.own.isIn (fun i hi e=>by
    have h1:=(hown4.new i hi).1
    have h2:=(HPTS.out.row.lt i e).2
    have h3:(wr.alloc (.cells #[.int .i64 c,.int .i64 s] 36)).drew.heap.size=wr.heap.size+1:=World.size_alloc _ _
    omega)
   have OS4:Hid (s4.oneCell'=true):=hown4.own.one
   have HOW4:Hid (Own w4 (wr.alloc (.cells #[.int .i64 c,.int .i64 s] 36)).drew.heap.size s4 a.t f4):=hown4
   have hcell5:=HA.out (w4.alloc (.cells (ptCells ((c,s),a) s4).toArray 84)) (((Kp.refl _ _).drew.trans hk4).alloc _)
   have hw2s:w2.heap.size≤w4.heap.size:=Nat.le_trans HKQ.out.size HK4.out.size
   have HRow:Hid ((w4.alloc (.cells (ptCells ((c,s),a) s4).toArray 84)).ownsRow w2.heap.size 84 23 (.slice pv ys.length cv) ys.length (rowP ys)):=((HPTS.out.kp HK4.out).row).alloc _
   have HB5:Hid (Blk (w4.alloc (.cells (ptCells ((c,s),a) s4).toArray 84)) w4.heap.size (ptCells ((c,s),a) s4) 84):=Blk.new w4 _ _
   have HA5:Hid (∀ wq:World,(∀ i,i < w4.heap.size→i < w2.heap.size∨i=wr.heap.size→wq.heap[i]? = w4.heap[i]?)→wq.cell? ⟨wr.heap.size,0,none⟩=some (.int .i64 c)∧wq.cell? ⟨wr.heap.size,1,none⟩=some (.int .i64 s)):=fun wq h=>by
    have e4:=HA.out w4 ((Kp.refl _ _).drew.trans hk4)
    have hl:=cell_lt e4.1
    have e:=h wr.heap.size hl (.inr rfl)
    simp only [World.cell?] at e4 ⊢
    rw [e];exact e4
   have hwrB:w2.heap.size≤wr.heap.size:=HKQ.out.size
   have HNE:Hid ((Value.slice pv ys.length cv).ownBlock≠some wr.heap.size):=fun e=>by
    have:=(HPTS.out.row.lt _ e).2
    omega
   clear hk4 hown4 hHeld2 HA
   refine wpH_step (i:=6) (by kernel_rfl) rfl rfl (fun K hK=>?_)
   go_simp
   refine hK.out _ _ hcell5 (fun hHeld3=>?_)
   clear hK K hcell5
   refine wpH_step (i:=7) (by kernel_rfl) rfl rfl (fun K hK=>?_)
   refine wp_append_tell _ (.tmp 22) (.tmp 28) 29 rfl w2.heap.size 84 i0 _ 23 200 Tryz.underlying29 hi hz0 hz1 hz2 rfl (by decide) (.slice pv ys.length cv) ys.length (rowP ys) rfl HRow.out ⟨w4.heap.size,0,none⟩ 1 1 (ptCells ((c,s),a) s4) rfl rfl ?c1 ?c2 (by decide) ?c3 ?c4 ?c5 ?_
   case c1=>
    intro j u hj
    rw [addr_at,Nat.zero_add]
    exact HB5.out.cell hj
   case c2=>exact pt_one _ OS4.out
   case c3=>rw [HYL.out];unfold maxLen;have:=HLU.out;omega
   case c4=>rw [HYL.out];have:=HLU.out;omega
   case c5=>rw [World.size_alloc];omega
   intro g6 c6 w6 hrow6 hgr6 htell6
   have hob:∀ i,(Value.slice pv ys.length cv).ownBlock=some i→w2.heap.size≤i:=fun i e=>own_block HRow.out i e
   have k46:Kp w4 w6 (fun i=>(Value.slice pv ys.length cv).ownBlock=some i):=((Kp.refl w4 _).alloc _).trans (Kp.of_grown hgr6 (fun i e=>e))
   have HK6:Hid (Kp w2 w6 Nul):=(HKQ.out.trans HK4.out).trans' k46 (fun i hi e=>by have:=hob i e;omega)
   have hcell6:=HA5.out w6 (fun i hi h=>k46.block i hi (fun e=>by
    rcases h with h|h
    ·have:=hob i e;omega
    ·subst h;exact HNE.out e))
   have HP6:Hid (Pts w6 w2.heap.size (fun i=>(Value.slice (some ⟨g6,0,none⟩) (ys.length+1) c6).ownBlock≠some i) (.slice (some ⟨g6,0,none⟩) (ys.length+1) c6) (ys ++ [(((c,s),a),s4)])):=by
    refine ⟨by rw [rowP_snoc,List.length_append];exact hrow6,fun y hy=>?_⟩
    have hT:∀ sl t,NdIn w4 (fun i=>(Value.slice pv ys.length cv).ownBlock≠some i) sl t→NdIn w6 (fun i=>(Value.slice (some ⟨g6,0,none⟩) (ys.length+1) c6).ownBlock≠some i) sl t:=fun sl t h=>
     h.mono (fun i hi hl=>⟨k46.block i hl hi,fun e=>by
      have e':g6=i:=by simpa [Value.ownBlock] using e
      subst e'
      rcases htell6 with q|q
      ·exact hi q
      ·rw [World.size_alloc] at q;omega⟩)
    rcases List.mem_append.1 hy with hy|hy
    ·exact hT _ _ ((HPTS.out.kp HK4.out).tree y hy)
    ·rw [List.mem_singleton] at hy
     subst hy
     exact hT _ _ HO4.out
   have HPO6:Hid (PtO w6 w2.heap.size (.slice (some ⟨g6,0,none⟩) (ys.length+1) c6) (zs ++ [((((c,s),a),s4),f4)])):=by
    have h3:(wr.alloc (.cells #[.int .i64 c,.int .i64 s] 36)).drew.heap.size=wr.heap.size+1:=World.size_alloc _ _
    refine HPO.out.snoc HK4.out k46 HOW4.out (by omega) hwrB (fun i e=>by have:=(HPTS.out.row.lt i e).2;omega) (fun i e=>?_)
    have e':g6=i:=by simpa [Value.ownBlock] using e
    subst e'
    rcases htell6 with q|q
    ·exact .inl q
    ·rw [World.size_alloc] at q;exact .inr (by omega)
   have HZ6:Hid ((zs ++ [((((c,s),a),s4),f4)]).map (·.1)=ys ++ [(((c,s),a),s4)]):=by show _=_;rw [List.map_append,HZY.out];rfl
   have HM6:Hid ((ys ++ [(((c,s),a),s4)]).map (·.1.1)=U.take (q+1)):=by show _=_;rw [List.map_append,HMAP.out,HTK.out];rfl
   have HPU6:Hid (∀ y∈ys ++ [(((c,s),a),s4)],PutOf M y.1):=fun y hy=>by
    rcases List.mem_append.1 hy with hy|hy
    ·exact HPUT.out y hy
    ·rw [List.mem_singleton] at hy
     subst hy
     exact HPA.out
   refine hK.out _ _ hcell6 (fun hHeld4=>?_)
   clear hK K hrow6 hgr6 htell6 hob k46 hcell6 hHeld3 HA5 HNE HRow HB5 HO4 hw2s hwrB
   refine wpH_takes (i:=8) (v:=?_) (some 5) rfl rfl (by kernel_rfl) (by kernel_rfl) (by kernel_rfl) (fun _ _ _ h=>h) (Or.inl ⟨by rfl,?_⟩) hHeld4 ?_
   rotate_left
   ·intro w' hSw;clear hSw;go_simp;try with_reducible rfl
   simp only [Act.put,List.setIfInBounds_toArray]
   refine wpAnyH_done (by kernel_rfl) ?_ _
   refine NoPanic.normal ?_
   clear hHeld4
   go_wp2_with fail
   go_roundw
   case rel=>exact ⟨q+1,_,_,HZ6.out,HPO6.out,by omega,by go_num,HM6.out,HPU6.out,HP6.out,HK6.out⟩
   case measure=>simp only [RowKit.intOf];omega
  ·have hqe:q=n:=by omega
   subst hqe
   have hqn:¬ ((q:Int) < (q:Int)):=by omega
   have hall:U.take q=U:=by rw [List.take_of_length_le (by rw [HN.out];exact Nat.le_refl _)]
   have HEND:Hid (PutsR w wr L M u5 (zs.map (·.1))∧PtO wr w.heap.size u5 zs):=by
    rw [HZY.out]
    refine ⟨⟨⟨?_,(HPTS.out.mono (fun _ _ _=>trivial)).tree⟩,?_,?_,HPUT.out,HK2.out.trans HKQ.out⟩,HPO.out.le HK2.out.size⟩
    ·refine ⟨HPTS.out.row.1,?_⟩
     rcases HPTS.out.row.2 with h|⟨g',c',cur,h1,h2,h3⟩
     ·exact .inl h
     ·exact .inr ⟨g',c',cur,h1,Nat.le_trans HK2.out.size h2,h3⟩
    ·rw [HMAP.out,hall];exact HST.out
    ·rw [HMAP.out,hall];exact HMEM.out
   clear HPTS HMAP HPUT hall HPO HZY
   go_wp2_with fail
   go_ret
   exact ⟨zs,u5,rfl,HEND.out⟩
theorem wpList_store_var {ops:Array Oper} {rest:List Oper} {o:Oper} {a:Act} {w:World} {Q:Exit→Act→World→Prop} (hgd:o.guard=none) (ty:TypeId) (x y:Operand) (ho:o.op=.store ty x y)
  (b:Nat) (hx:a.eval x=.pointer (some ⟨b,0,none⟩)) (v:Value) (hy:a.eval y=v) (h1:v.oneCell'=true) (t:TypeId) (old:Value) (hb:Blk w b [old] t) (hi:(Tryz.prog.info? ty).map (·.size)=some 1)
  (h:∀ W,Blk W b [v] t→Kp w W (fun i=>i=b)→wpList Tryz.prog ops Q rest (a.put o.dst undef) W):wpList Tryz.prog ops Q (o :: rest) a w:=by
 subst hy
 refine wpList_store_one hgd ty x y ho b hx h1 t old hb hi (h _ (setRow_heap w b #[old] #[a.eval y] t (0,0) hb) ?_)
 refine ⟨rfl,rfl,rfl,?_,fun i _ hn=>?_⟩
 ·unfold World.setRow;simp
 ·unfold World.setRow
  simp only [Array.getElem?_modify]
  rw [if_neg (fun e=>hn e.symm)]
theorem row_down {w:World} {B B':Nat} {e:TypeId} {k n:Nat} {v:Value} {xs:List Value} (h:w.ownsRow B e k v n xs) (hb:B'≤B):w.ownsRow B' e k v n xs:=by
 obtain ⟨h0,h⟩:=h
 refine ⟨h0,?_⟩
 rcases h with h|⟨g',c',cur,h1,h2,h3⟩
 ·exact .inl h
 ·exact .inr ⟨g',c',cur,h1,Nat.le_trans hb h2,h3⟩
theorem row_one {w:World} {B:Nat} {e:TypeId} {k n:Nat} {v:Value} {xs:List Value} (h:w.ownsRow B e k v n xs):v.oneCell'=true:=by
 obtain ⟨_,⟨rfl,_⟩|⟨g',c',cur,rfl,_⟩⟩:=h <;> rfl
theorem CellsFrom.down {B B':Nat} {w:World} {v:Value} {L:List (Int×Int)} (h:CellsFrom B w v L) (hb:B'≤B):CellsFrom B' w v L:=by
 obtain ⟨a,c,h1,h2|⟨b,h2,h3,h4⟩⟩:=h
 ·exact ⟨a,c,h1,.inl h2⟩
 ·exact ⟨a,c,h1,.inr ⟨b,h2,Nat.le_trans hb h3,h4⟩⟩
theorem make_puts (n:Nat) (hn:n≤1048576):∃ cs:Array Value,cs.size=n * 23 ∧
  ∀ w:World,(Instr.makeSlice 29 (.int .i64 (n:Int)) (.int .i64 (n:Int))).run Tryz.prog w=.ok (.slice (some ⟨w.heap.size,0,none⟩) n n) (w.alloc (.cells cs 84)):=by
 obtain ⟨i,hi,hz,hs,hb⟩:=infoPutI
 have:=fun w=>run_make (P:=Tryz.prog) w 29 84 i _ Tryz.underlying29 hi hz .i64 .i64 n n (by omega) (Int.le_refl _) (by rw [hb];omega) (by omega)
 simp only [Int.toNat_natCast] at this
 exact ⟨_,by rw [size_madeCells,hs],this⟩
theorem look_ctF {w:World} {F:Nat→Prop} {g:Nat} {L:List Cc} (h:GridIn w F g L) (gL:∀ x∈L,Gd x.2) {c s:Int} (hc:I64 c) (hs:I64 s) {mv:Option Nat} (hb:Blk w g [.map mv] 68) :
  ∃ a sa b,Lk w g c s mv (a.val sa) b∧NdIn w F sa a.t∧a.v.x < 18446744073709551616∧a.t.ok∧a.t.size≤1048576∧cpC a=a∧((b=true∧((c,s),a)∈L)∨(b=false∧a=ct0∧sa=.slice none 0 0∧∀ a',((c,s),a') ∉ L)):=by
 obtain ⟨mv',v,b,q1,q2⟩:=lk_of h hc hs
 have e:mv'=mv:=by
  have q:=q1.cell.symm.trans hb
  simpa using q
 subst e
 rcases q2 with ⟨rfl,ct,sl,h1,rfl,h3⟩|⟨rfl,rfl,h2⟩
 ·have hgd:=gL _ h1
  exact ⟨ct,sl,true,q1,h3,hgd.x,hgd.ok,hgd.size,hgd.cp,.inl ⟨rfl,h1⟩⟩
 ·refine ⟨ct0,.slice none 0 0,false,q1,zNd_in w _,by decide,zNd_ok,by show zNd.size≤_;rw [zsize];decide,?_,.inr ⟨rfl,rfl,rfl,h2⟩⟩
  unfold cpC ct0
  simp only [cpy_zNd]
  rfl
structure WiR (w w':World) (F:Nat→Prop) (L:List Cc) (b:Nat) (ys:List (Cc×Value)):Prop where
 low:w.heap.size≤b
 rng:∀ i y,ys[i]? = some y→w'.rangeAt b (i * 23) (ptCells y.1 y.2)
 strict:Strict (ys.map (·.1.1))
 mem:∀ x,x∈ys.map (·.1) ↔ x∈L
 tree:∀ y∈ys,NdIn w' F y.2 y.1.2.t
 kp:Kp w w' Nul
theorem rangeAt_kp {w w':World} {S:Nat→Prop} {b o:Nat} {cs:List Value} (h:w.rangeAt b o cs) (k:Kp w w' S) (hb:¬ S b):w'.rangeAt b o cs:=fun j v hj=>by
 have h1:=h j v hj
 have e:=k.block b (cell_lt h1) hb
 simp only [World.cell?] at h1 ⊢
 rw [e];exact h1
theorem there_kp {w w':World} {S:Nat→Prop} {b o n:Nat} (h:w.there b o n) (k:Kp w w' S) (hb:¬ S b) (hl:b < w.heap.size):w'.there b o n:=fun j hj=>by
 have h1:=h j hj
 have e:=k.block b hl hb
 simp only [World.cell?,World.frozen?] at h1 ⊢
 rw [e];exact h1
theorem put_rng {α:Type} (P:α→List Value) (hP:∀ y,(P y).length=23) {X W6:World} {b q:Nat} {ys:List α} {y0:α} (hW:X.setCells b (q * 23) (P y0)=W6) (hl:ys.length=q) (ht:X.there b (q * 23) 23) (h:∀ (i:Nat) y,ys[i]? = some y→X.rangeAt b (i * 23) (P y)) :
  ∀ (i:Nat) y,(ys ++ [y0])[i]? = some y→W6.rangeAt b (i * 23) (P y):=fun i y hy=>by
 have hle:=(List.getElem?_eq_some_iff.1 hy).1
 rw [List.length_append,List.length_singleton,hl] at hle
 subst hW
 rcases Nat.lt_or_ge i q with c' | c'
 ·rw [List.getElem?_append_left (by rw [hl];exact c')] at hy
  exact World.rangeAt_setCells_apart (h i y hy) _ _ _ (.inr (.inl (by rw [hP];omega)))
 ·have e:i=q:=by omega
  subst e
  rw [List.getElem?_append_right (by rw [hl];exact Nat.le_refl _),hl,Nat.sub_self] at hy
  have e2:y=y0:=by simpa using hy.symm
  subst e2
  exact World.rangeAt_setCells_same _ _ _ _ (by rw [hP];exact ht)
theorem rangeAt_alloc {w:World} {b o:Nat} {cs:List Value} (h:w.rangeAt b o cs) (ob:Obj):(w.alloc ob).drew.rangeAt b o cs:=rangeAt_kp h (((Kp.refl w Nul).alloc ob).drew) (fun x=>x)
theorem there_sets {w W6:World} {b o n o':Nat} {vs:List Value} {ob:Obj} (h:w.there b o n) (hW:(w.alloc ob).drew.setCells b o' vs=W6):W6.there b o n:=by
 subst hW
 exact World.there_setCells ((World.there_drew _ _ _ _).2 (World.there_alloc h ob)) _ _ _
end Go.Proofs.YtlppcfeakakpfaaGreatDoor
