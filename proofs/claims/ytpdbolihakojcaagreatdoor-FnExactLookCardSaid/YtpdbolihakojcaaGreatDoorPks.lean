import Derived.Test.YtpdbolihakojcaaGreatDoorPkp
namespace Go.Proofs.YtpdbolihakojcaaGreatDoor
set_option maxRecDepth 20000
set_option linter.unusedVariables false
set_option linter.unusedSimpArgs false
set_option maxHeartbeats 4000000
open Go.RowKit
variable {W Y w w' w0 wr : World} {b : List UInt8} {A B at_ base' c cap e f g gs i j k lo m n u z : Nat} {R d is l : List Nat} {E G I J K L M N O v0 v1 v2 v3 v4 v5 v6 x y : Value} {o : Oper} {Q : Exit → Act → World → Prop} {bvs xs : List Value} {t : TypeId} {cs tmps : Array Value} {p : Addr} {a : Option Addr} {first ok : Bool} {s : ByteArray} {rs : List (List Nat)}
section
open Go.Lib
open Go.Sort (grow HoldsK putRowK)
theorem B4{d z:Array Cd}{a b:Nat}(O:a≤b)(Z:b≤d.size)(h:Go.Sort.PermIn a b d z):Seg a b d.toList z.toList:=by
 obtain⟨Y,R,J⟩:=h;have A:∀(x:Array Cd) (i:Nat),i<x.size→x.toList[i]? =some x[i]! :=fun x i K=>(by simp[K]);have I:∀i,(i<a∨b≤i)→z.toList[i]? =d.toList[i]? :=fun i K=>by
  by_cases V:i<d.size
  ·rw[A d i V,A z i (by omega),R i K]
  ·rw[Nf (by simp;omega),Nf (by simp;omega)]
 have L:∀(x:Array Cd),(x.extract a b).toList=(x.toList.take b).drop a:=fun x=>by
  rw[Array.toList_extract,List.extract_eq_take_drop,List.drop_take]
 have N:∀(l:List Cd),l=l.take a++((l.take b).drop a++l.drop b):=fun l=>by
  have E:l.take b=(l.take b).take a++(l.take b).drop a:=(Nk a (l.take b)).symm;rw[List.take_take,Nat.min_eq_left O] at E;rw[←Nz,←E,Nk]
 rw[L,L] at J;refine⟨?_,I,fun i i1 i2=> ?_⟩
 ·rw[N d.toList,N z.toList];have E:z.toList.take a=d.toList.take a:=by
   apply List.ext_getElem?;intro i;rw[List.getElem?_take,List.getElem?_take];split
   ·exact I i (by omega)
   ·rfl
  have Q:z.toList.drop b=d.toList.drop b:=by
   apply List.ext_getElem?;intro i;rw[List.getElem?_drop,List.getElem?_drop];exact I _ (by omega)
  rw[E,Q];exact(J.append_right _).append_left _
 ·have U:z[i]!∈(z.toList.take b).drop a:=by
   rw[List.mem_iff_getElem?];refine⟨i-a,?_⟩;rw[List.getElem?_drop,List.getElem?_take,if_pos (by omega),show a+(i-a)=i by omega];exact A z i (by omega)
  have M:=J.mem_iff.1 U;rw[List.mem_iff_getElem?] at M;obtain⟨j,G⟩:=M;rw[List.getElem?_drop,List.getElem?_take] at G;split at G
  ·next hlt=>exact⟨a+j,by omega,hlt,by rw[A z i (by omega)];exact G.symm⟩
  ·cases G
theorem xP{d:Array Cd}{a b:Nat}(I:b≤d.size)(h:Go.Sort.SortedIn (ltOf cmU) a b d):e9 Cd.uid d.toList a b:=fun i j z G A=>by
 rw[mF (by omega),mF (by omega)];by_cases e:i=j
 ·subst e;exact MH _
 ·have:=h i j z (by omega) A;unfold ltOf at this;have E:=of_decide_eq_false this;rw[lL] at E;omega
theorem Jf:Go.Sort.SWO (ltOf cmU):=by
 constructor
 ·intro x;unfold ltOf;exact decide_eq_false (by rw[lL];omega)
 ·intro x y z A E;unfold ltOf at*;have:=of_decide_eq_true A;have:=of_decide_eq_true E;rw[lL] at*;exact decide_eq_true (by rw[lL];omega)
 ·intro x y z A E;unfold ltOf at*;have:=of_decide_eq_false A;have:=of_decide_eq_false E;rw[lL] at*;exact decide_eq_false (by rw[lL];omega)
theorem Ky(z cap a b:Nat)(I J:Int)(K:Nat)(d:Array Cd)(w:World)(Q:I=(a:Int))(M:J=(b:Int))(R:K=d.size)(O:HoldsK d6 7 w z 0 d)(L:z<w.heap.size)(E:a≤b)(A:b≤d.size)(U:d.size≤1000000):
  Calls Tryz.prog 201 #[.slice (some ⟨z,0,none⟩) K cap,.int .i64 I,.int .i64 J,fnC] w (oc 7 w z a b d):=by
 subst Q M R;have h:=AnyQ.insertionSortCmpFunc Tryz.laysIns 7 Tryz.isAgg219 Tryz.sizeOf219 d6 (fun _=>rfl) mx cmU 145 #[] z 0 cap a b d w Tryz.enterC (K4 7 z d.size w) O L E A (by omega);change Calls Tryz.prog 201 _ _ _ at h;refine h.mono ?_;rintro e w' ⟨rfl,n,os,rfl⟩;obtain⟨G,N⟩:=Go.Sort.insertionSort_holds Jf d a b E A;exact⟨rfl,n,_,os,⟨G.1,B4 E A G,xP (by rw[G.1];exact A) N⟩,rfl⟩
def Bks(dk:Array Cd)(bs n:Nat):Prop:=∀s,e9 Cd.uid dk.toList (s*bs) (min (s*bs+bs) n)
theorem e9.sub{xs:List Cd}{a b z A:Nat}(h:e9 Cd.uid xs a b)(J:a≤z)(K:A≤b):e9 Cd.uid xs z A:=fun i j G E I=>h i j (by omega) E (by omega)
theorem vQ{xs:List Cd}{a b:Nat}(h:b≤a):e9 Cd.uid xs a b:=fun i j z A E=>by omega
theorem Cp(A cap:Nat)(d:Array Cd)(w:World)(hH:HoldsK d6 7 w A 0 d)(Q:A<w.heap.size)(ar:d.size≤1000000):
  Calls Tryz.prog 177 #[.slice (some ⟨A,0,none⟩) d.size cap,.int .i64 (d.size:Int),fnC] w (oc 7 w A 0 d.size d):=by
 have am:=a8 (ki hH);have HH:=a8 hH;obtain⟨n,hn⟩:∃n,d.size=n:=⟨_,rfl⟩
 have HN:=a8 hn;have ay:n≤1000000:=(by omega);rw[hn];clear hH hn ar;go_enter Tryz.func177,Tryz.ntmps177;go_wp2;go_loopw [7,8] (fun va vb wr=>∃(t a q:Nat) (z:Array Cd) (os:Array Obj),va= .int .i64 (a:Int)∧vb= .int .i64 ((a:Int)+20)∧Hid (a=t*20)∧a≤n∧z.size=n∧wr=srW 7 w A q z os∧Hid (∀s,s<t→e9 Cd.uid z.toList (s*20) (s*20+20))∧Hid (Seg 0 n d.toList z.toList)) (fun va _ _=>n-(intOf va).toNat)
 case atStart=>exact⟨0,0,0,d, #[],rfl,rfl,a8 rfl,MQ _,HN.out,am.out,a8 (fun s hs=>by omega),a8 (Seg.refl _ _ _)⟩
 case round=>
  obtain⟨t,a,q,z,os,rfl,rfl,U,an,E,rfl,Z,K⟩:=hrel;have N:=ig q os HH.out Q (E.trans HN.out.symm);have O:A<(srW 7 w A q z os).heap.size:=MW Q (kA _ _ _ _ _);by_cases aj:a+20≤n
  ·have aa:(a:Int)+20≤(n:Int):=(by omega);have C:=a8 (Ky A cap a (a+20) (a:Int) ((a:Int)+20) n z _ rfl (by omega) E.symm N O (by omega) (by omega) (by omega));clear N;generalize Y:srW 7 w A q z os=wq at C O⊢;go_wp2_with fail;refine C.out.mono ?_;rintro e w2 ⟨rfl,q2,G,ab,⟨J,L,M⟩,rfl⟩;have I:=a8 L;have R:=a8 M;clear L M C;subst Y;rw[iJ Q J];go_wp2;go_roundw
   case rel=>
    have V:=U.out;refine⟨t+1,a+20,_,G,_,by go_num,by go_num,a8 (by omega),by omega,J.trans E,rfl,a8 (fun s hs=> ?_),a8 (K.out.trans (I.out.mono (by omega) (by omega)))⟩;by_cases e:s=t
    ·subst e;rw[←V];exact R.out
    ·exact(Z.out s (by omega)).out Cd.uid I.out (Or.inl (by omega))
   case measure=>simp[intOf];omega
  ·have aa:¬(a:Int)+20≤(n:Int):=(by omega);have C:=a8 (Ky A cap a n (a:Int) (n:Int) n z _ rfl rfl E.symm N O (by omega) (by omega) (by omega));clear N;generalize Y:srW 7 w A q z os=wq at C O⊢;go_wp2_with fail;refine C.out.mono ?_;rintro e w2 ⟨rfl,q2,G,ab,⟨J,L,M⟩,rfl⟩;have I:=a8 L;have R:=a8 M;clear L M C;subst Y;rw[iJ Q J];have ah:=a8 (show Bks G 20 n from fun s=>by
    have V:=U.out;by_cases h1:s<t
    ·exact(((Z.out s h1).out Cd.uid I.out (Or.inl (by omega)))).sub (MH _) (Nat.min_le_left _ _)
    ·by_cases h2:s=t
     ·subst h2;rw[←V];exact R.out.sub (MH _) (Nat.min_le_right _ _)
     ·exact vQ (by omega))
   have af:=a8 (K.out.trans (I.out.mono (by omega) (by omega)));have ak:G.size=n:=J.trans E;clear U Z R I K;generalize aq:q+q2=q3;generalize ap:os++ab=au;clear aq ap;go_wp2;go_loopw [6,7,8,9] (fun vs _ _ _ wr=>∃(bs q:Nat) (z:Array Cd) (os:Array Obj),vs= .int .i64 (bs:Int)∧20≤bs∧bs≤2000020∧z.size=n∧wr=srW 7 w A q z os∧Hid (Bks z bs n)∧Hid (Seg 0 n d.toList z.toList)) (fun vs _ _ _ _=>n-(intOf vs).toNat)
   case atStart=>exact⟨20,q3,G,au,rfl,MH _,by omega,ak,rfl,ah,af⟩
   case round=>
    clear aj aa O;obtain⟨bs,q,z,os,rfl,aw,ax,E,rfl,Z,K⟩:=hrel;by_cases aj:bs<n
    ·have aa:(bs:Int)<(n:Int):=(by omega);clear ah af J ak;go_wp2;go_loopw [7,8] (fun va vb wr=>∃(t a q:Nat) (z:Array Cd) (os:Array Obj),va= .int .i64 (a:Int)∧vb= .int .i64 ((a:Int)+2*(bs:Int))∧Hid (a=t*(2*bs))∧a≤n∧z.size=n∧wr=srW 7 w A q z os∧Hid (∀s,s<t→e9 Cd.uid z.toList (s*(2*bs)) (s*(2*bs)+2*bs))∧Hid (∀s,a≤s*bs→e9 Cd.uid z.toList (s*bs) (min (s*bs+bs) n))∧Hid (Seg 0 n d.toList z.toList)) (fun va _ _=>n-(intOf va).toNat)
     case atStart=>exact⟨0,0,q,z,os,rfl,by simp,a8 (by omega),MQ _,E,rfl,a8 (fun s hs=>by omega),a8 (fun s hs=>Z.out s),K⟩
     case round=>
      clear Z K E;obtain⟨t,a,q,z,os,rfl,rfl,U,an,E,rfl,ag,ac,K⟩:=hrel;have N:=ig q os HH.out Q (E.trans HN.out.symm);have O:A<(srW 7 w A q z os).heap.size:=MW Q (kA _ _ _ _ _);have HE:=a8 (show a=(2*t)*bs∧(2*t+1)*bs=a+bs∧(t+1)*(2*bs)=a+2*bs from by
       have h:=U.out;have e1:t*(2*bs)=(2*t)*bs:=(by rw[←Nat.mul_assoc,Nat.mul_comm t 2]);refine⟨by omega,?_,?_⟩
       ·rw[Nat.succ_mul];omega
       ·rw[Nat.succ_mul];omega)
      have ad:=a8 (show e9 Cd.uid z.toList a (min (a+bs) n) from by
       have:=ac.out (2*t) (by have:=HE.out;omega);rw[←HE.out.1] at this;exact this)
      have ai:=a8 (show e9 Cd.uid z.toList (a+bs) (min (a+2*bs) n) from by
       have:=ac.out (2*t+1) (by have:=HE.out;omega);rw[HE.out.2.1] at this;rw[show a+2*bs=a+bs+bs by omega];exact this)
      by_cases av:a+2*bs≤n
      ·have al:(a:Int)+2*(bs:Int)≤(n:Int):=(by omega);have C:=a8 (yc Tryz.srP (2*bs+1) A cap a (a+bs) (a+2*bs) (a:Int) ((a:Int)+(bs:Int)) ((a:Int)+2*(bs:Int)) n z _ rfl (by omega) (by omega) E.symm (by omega) N O (by omega) (by omega) (by omega) (by omega) (ad.out.sub (MH _) (by omega)) (ai.out.sub (MH _) (by omega)));clear N;generalize Y:srW 7 w A q z os=wq at C O⊢;go_wp2_with fail;refine C.out.mono ?_;rintro e w2 ⟨rfl,q2,G,ab,⟨J,L,M⟩,rfl⟩;have I:=a8 L;have R:=a8 M;clear L M C;subst Y;rw[iJ Q J];go_wp2;go_roundw
       case rel=>
        have he:=HE.out;have V:=U.out;refine⟨t+1,a+2*bs,_,G,_,by go_num,by go_num,a8 he.2.2.symm,by omega,J.trans E,rfl,a8 (fun s hs=> ?_),a8 (fun s hs=> ?_),a8 (K.out.trans (I.out.mono (by omega) (by omega)))⟩
        ·by_cases e:s=t
         ·subst e;rw[←V];exact R.out
         ·have h1:(s+1)*(2*bs)≤t*(2*bs):=Ny _ (by omega);rw[Nat.succ_mul] at h1;exact(ag.out s (by omega)).out Cd.uid I.out (Or.inl (by omega))
        ·exact(ac.out s (by omega)).out Cd.uid I.out (Or.inr (by omega))
       case measure=>simp[intOf];omega
      ·have al:¬(a:Int)+2*(bs:Int)≤(n:Int):=(by omega);have ae:=a8 (show∀(G:Array Cd),e9 Cd.uid G.toList a n→Seg a n z.toList G.toList→Bks G (bs*2) n from fun G h1 h2 s=>by
        have V:=U.out;have he:=HE.out;rw[show bs*2=2*bs by omega];by_cases e1:s<t
        ·have h3:(s+1)*(2*bs)≤t*(2*bs):=Ny _ (by omega);rw[Nat.succ_mul] at h3;exact((ag.out s e1).out Cd.uid h2 (Or.inl (by omega))).sub (MH _) (Nat.min_le_left _ _)
        ·by_cases e2:s=t
         ·subst e2;rw[←V];exact h1.sub (MH _) (Nat.min_le_right _ _)
         ·have h3:(t+1)*(2*bs)≤s*(2*bs):=Ny _ (by omega);exact vQ (by omega))
       by_cases hm:a+bs<n
       ·have ao:(a:Int)+(bs:Int)<(n:Int):=(by omega);have C:=a8 (yc Tryz.srP (2*bs+1) A cap a (a+bs) n (a:Int) ((a:Int)+(bs:Int)) (n:Int) n z _ rfl (by omega) rfl E.symm (by omega) N O (by omega) (by omega) (by omega) (by omega) (ad.out.sub (MH _) (by omega)) (ai.out.sub (MH _) (by omega)));clear N;generalize Y:srW 7 w A q z os=wq at C O⊢;go_wp2_with fail;refine C.out.mono ?_;rintro e w2 ⟨rfl,q2,G,ab,⟨J,L,M⟩,rfl⟩;have I:=a8 L;have R:=a8 M;clear L M C;subst Y;rw[iJ Q J];go_wp2;go_roundw
        case rel=>exact⟨bs*2,_,G,_,by go_num,by omega,by omega,J.trans E,rfl,a8 (ae.out G R.out I.out),a8 (K.out.trans (I.out.mono (by omega) (by omega)))⟩
        case measure=>simp[intOf];omega
       ·have ao:¬(a:Int)+(bs:Int)<(n:Int):=(by omega);have HR:=a8 (ae.out z (ad.out.sub (MH _) (by omega)) (Seg.refl _ _ _));clear N;go_wp2;go_roundw
        case rel=>exact⟨bs*2,q,z,os,by go_num,by omega,by omega,E,rfl,HR,K⟩
        case measure=>simp[intOf];omega
    ·have aa:¬(bs:Int)<(n:Int):=(by omega);have HR:=a8 (show e9 Cd.uid z.toList 0 n from(Z.out 0).sub (by omega) (by omega));go_wp2
     go_end0
     exact⟨rfl,q,z,os,⟨E.trans HN.out.symm,K.out,HR.out⟩,rfl⟩
theorem Iu(z cap:Nat)(d:Array Cd)(w:World)(A:HoldsK d6 7 w z 0 d)(E:z<w.heap.size)(G:d.size≤1000000):
  Calls Tryz.prog 144 #[.slice (some ⟨z,0,none⟩) d.size cap,fnC] w (oc 7 w z 0 d.size d):=by
 have C:=a8 (Cp z cap d w A E G);clear A;go_enter Tryz.func144,Tryz.ntmps144;go_wp2_with fail;refine C.out.mono ?_;rintro e I ⟨rfl,h⟩;have H:=a8 h;clear h;go_wp2
 go_end0
 exact⟨rfl,H.out⟩
theorem Iv(w:World):Calls Tryz.prog 144 #[.slice none 0 0,fnC] w fun e w'=>e= .returned (.tuple #[])∧w'=w:=by
 have z:∀w,Calls Tryz.prog 201 #[.slice none 0 0,.int .i64 0,.int .i64 0,fnC] w fun e w'=>e= .returned (.tuple #[])∧w'=w:=fun w=>by
  go_enter Tryz.func201,Tryz.ntmps201;go_wp2;refine wp_loop_rounds 1 ?_;rw[rounds_succ];go_wp2
  go_end0
  exact⟨rfl,rfl⟩
 have A:∀w,Calls Tryz.prog 177 #[.slice none 0 0,.int .i64 0,fnC] w fun e w'=>e= .returned (.tuple #[])∧w'=w:=fun w=>by
  go_enter Tryz.func177,Tryz.ntmps177;go_wp2;refine wp_loop_rounds 1 ?_;rw[rounds_succ];go_wp2_with fail;refine(z w).mono ?_;rintro e E ⟨rfl,rfl⟩;go_wp2;refine wp_loop_rounds 1 ?_;rw[rounds_succ];go_wp2
  go_end0
  exact⟨rfl,rfl⟩
 go_enter Tryz.func144,Tryz.ntmps144;go_wp2_with fail;refine(A w).mono ?_;rintro e E ⟨rfl,rfl⟩;go_wp2
 go_end0
 exact⟨rfl,rfl⟩
end
end Go.Proofs.YtpdbolihakojcaaGreatDoor
