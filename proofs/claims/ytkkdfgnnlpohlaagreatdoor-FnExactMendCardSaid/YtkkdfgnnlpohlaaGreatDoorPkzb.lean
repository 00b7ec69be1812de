import Derived.Test.YtkkdfgnnlpohlaaGreatDoorPky
namespace Go.Proofs.YtkkdfgnnlpohlaaGreatDoor
set_option maxRecDepth 20000
set_option linter.unusedVariables false
set_option linter.unusedSimpArgs false
set_option maxHeartbeats 4000000
open Go.RowKit Go.Proofs.Tryz
variable {W X Y w w' w0 wr : World} {A B at_ b b2 base' c cap e f g go gs hi i j k lo m n s u val z : Nat} {E G I J K L M N O u0 u1 u2 v0 v1 v2 v3 v4 v5 v6 x y : Value} {o : Oper} {Q : Exit → Act → World → Prop} {cs tmps : Array Value} {t : TypeId} {p : Addr} {l : List Nat} {bvs xs : List Value} {a : List UInt8} {first ok : Bool}
structure TxL(w:World)(b0:Nat)(a:OA)(c:Nat)(d:LN):Prop where
 row:dW w a d
 room:d.length≤c
 cap:c≤9223372036854775807
 ap:∀p,a=some p→p.spot=none∧(0<d.length→p.block<b0)
theorem TxL.keep{a:OA}{d:LN}(h:TxL w z a c d)(J:∀b,b<z→w'.heap[b]? =w.heap[b]?):TxL w' z a c d:=by
 refine⟨fun A=> ?_,h.room,h.cap,h.ap⟩;obtain⟨b,E,rfl,I⟩:=h.row A;have G:=J b ((h.ap _ rfl).2 A);exact⟨b,E,rfl,fun i hi=>by rw[ef G];exact I i hi⟩
theorem TxL.nil(w:World)(z:Nat):TxL w z none 0 []:=⟨fun h=>OH h (Nat.lt_irrefl _),OV _,by omega,fun p h=>by cases h⟩
structure ll(w:World)(base b0:Nat)(v:Value)(ms:List FM):Prop where
 own:dM w base 108 11 v (ms.map mlF)
 tx:∀m∈ms,TxL w b0 m.ba m.bc m.x.body∧TxL w b0 m.ea m.ec m.x.entry
theorem ll.keep{v:Value}{ms:List FM}(h:ll w A z v ms)(E:∀b,b<z→w'.heap[b]? =w.heap[b]?)(I:∀g,v.ownBlock=some g→w'.heap[g]? =w.heap[g]?):ll w' A z v ms:=
 ⟨dM.keep h.own I,fun m G=>⟨(h.tx m G).1.keep E,(h.tx m G).2.keep E⟩⟩
theorem ll.below{v:Value}{ms:List FM}(h:ll w A z v ms)(E:Below w.heap.size w w')(I:z≤w.heap.size):ll w' A z v ms:=
 h.keep (fun b h=>E.block b (by omega)) (fun g G=>E.block g (dM.lt h.own g G).2)
theorem ll.cell{E:Nat}{ms:List FM}(h:ll w A E (sS g n cap) ms)(i j:Nat)(hi:i<ms.length)(z:j<11):w.cell? ⟨g,i*11+j,none⟩=(mlF ms[i])[j]? :=by
 have G:((ms.map mlF)[i]'(by simpa using hi)).length=11:=(by rw[Po];rfl);rw[h.own.cell i j (by simpa using hi) (by rw[G];exact z),OZ (by show j<11;exact z)];congr 1;simp
theorem ll.nil(w:World)(z A:Nat):ll w z A (sN) []:=⟨dM.nil _ _ _ _,fun m E=>by cases E⟩
theorem ij{L:Array Oper}{K:List Oper}{E:Act}(w:World)(U:o.guard=none)(s x:Operand)
  (ho:o.op= .call {callee:= .builtin .append,args:= #[s,x],argTypes:= #[45,45]})
  (A:Nat) (v:Value) (ms:List FM) (m:FM) (I c:Nat) (hs:E.eval s=v) (hx:E.eval x=sS I 1 c) (J:dM w A 108 11 v (ms.map mlF))
  (hc:∀j u,(mlF m)[j]? =some u→w.cell? ⟨I,j,none⟩=some u) (aa:ms.length≤1048576) (N:A≤w.heap.size)
  (h:∀G w',dM w' A 108 11 G ((ms++[m]).map mlF)→w.grownBy w' v.ownBlock→wpList prog L Q K (E.put o.dst G) w'):wpList prog L Q (o::K) E w:=by
 obtain⟨i0,hi,V,Y,Z⟩:=info_parts xb;have O:w.ownsRow A 108 11 v ms.length (ms.map mlF).flatten:=(by have:=J.2;rw[OW] at this;exact this);refine wpList_append_own w U s x 45 ho A 108 i0 (.agg #[.int .u32 0,.int .i64 0,.int .u32 0,sN,sN,.int .i64 0,.int .u32 0,.int .i64 0,.int .i64 0,.bool false,.string ⟨#[]⟩]) 11 128 underlying45 hi V Y Z rfl (by decide) v ms.length (ms.map mlF).flatten hs O ⟨I,0,none⟩ 1 c (mlF m) hx (by simp[mlF]) ?_ ?_ (by unfold maxLen;omega) (by omega) N ?_
 ·intro j u hj;rw[ez,Ps];exact hc j u hj
 ·intro u M;simp only[mlF,Pd,Pw,or_false] at M;rcases M with rfl|rfl|rfl|rfl|rfl|rfl|rfl|rfl|rfl|rfl|rfl<;>rfl
 ·intro G w' R hg _;refine h G w' ⟨?_,?_⟩ hg
  ·intro y z;rw[O7,Pj] at z;rcases z with z|z
   ·exact J.1 y z
   ·simp only[Pe,PD,Ph] at z;rw[z];rfl
  ·rw[OW,O1,O7,PQ];simpa using R
abbrev iD(f:FM):Nat:=f.x.uid
def InR(m:FM)(fs:List FM)(dn:Bool)(os:List FM)(j:Nat):Prop:=
 (dn=true∧jj iD m fs=some (os++fs.drop j)∧(∀x∈fs.drop j,iD m<iD x)∧os.length=j+1)∨(dn=false∧os=fs.take j∧jj iD m fs=(jj iD m (fs.drop j)).map (os++·))
theorem InR.start(m:FM)(fs:List FM):InR m fs false [] 0:=Or.inr ⟨rfl,rfl,by simp⟩
theorem InR.same{m:FM}{fs os:List FM}{E:Bool}(h:InR m fs E os j)(A:j<fs.length)(e:iD fs[j]=iD m):jj iD m fs=none:=by
 rcases h with⟨_,_,z,_⟩|⟨_,_,z⟩
 ·have:=z fs[j] (by rw[fP fs j A];exact PB);omega
 ·rw[z,fP fs j A,jj,OS e];rfl
theorem InR.put{m:FM}{fs os:List FM}(h:InR m fs false os j)(z:j<fs.length)(J:LtG iD fs)(e:iD m<iD fs[j]):InR m fs true (os++[m]++[fs[j]]) (j+1):=by
 rcases h with⟨A,_⟩|⟨_,E,G⟩
 ·cases A
 ·have I:os.length=j:=(by rw[E,Pa];omega);refine Or.inl ⟨rfl,?_,?_,by simp[I]⟩
  ·rw[G,fP fs j z,jj,OR (by omega),OS e];simp
  ·intro x K;obtain⟨i,hi,rfl⟩:=PT.1 K;have:=Pn.1 J j (j+1+i) z (by simp at hi;omega) (by omega);rw[List.getElem_drop];omega
theorem InR.step{m:FM}{fs os:List FM}{E:Bool}(h:InR m fs E os j)(A:j<fs.length)(e:iD fs[j]≠iD m)(K:E=true∨¬iD m<iD fs[j]):InR m fs E (os++[fs[j]]) (j+1):=by
 rcases h with⟨z,G,I,J⟩|⟨z,G,I⟩
 ·refine Or.inl ⟨z,?_,?_,by simp[J]⟩
  ·rw[G,fP fs j A];simp
  ·intro x M;exact I x (by rw[fP fs j A];exact O8 _ M)
 ·refine Or.inr ⟨z,?_,?_⟩
  ·rw[G,fD fs j A]
  ·have L:¬iD m<iD fs[j]:=by
    rcases K with h|h
    ·rw[z] at h;cases h
    ·exact h
   rw[I,fP fs j A,jj,OR e,OR L];cases jj iD m (fs.drop (j+1))<;>simp
theorem InR.last{m:FM}{fs os:List FM}{A:Bool}(h:InR m fs A os fs.length):jj iD m fs=some (if A=true then os else os++[m]):=by
 rcases h with⟨z,E,_⟩|⟨z,E,G⟩
 ·rw[E,OS z,PO,Pm]
 ·rw[G,OR (by rw[z];simp),PO];rfl
theorem InR.len{m:FM}{fs os:List FM}{z:Bool}(h:InR m fs z os j)(A:j≤fs.length):os.length≤j+1:=by
 rcases h with⟨_,_,_,h⟩|⟨_,h,_⟩
 ·omega
 ·rw[h,Pa];omega
theorem ll.push{G:Nat}{v:Value}{os:List FM}{x:FM}(h:ll w G A v os)(I:TxL w A x.ba x.bc x.x.body∧TxL w A x.ea x.ec x.x.entry)(K:dM w' G 108 11 J ((os++[x]).map mlF))(E:∀b,b<A→w'.heap[b]? =w.heap[b]?):ll w' G A J (os++[x]):=by
 refine⟨K,fun m z=> ?_⟩;rcases Pj.1 z with z|z
 ·exact⟨(h.tx m z).1.keep E,(h.tx m z).2.keep E⟩
 ·rw[Ph] at z;subst z;exact⟨I.1.keep E,I.2.keep E⟩
theorem dX.mono(h:dX gs B w w')(E:z≤B):dX gs z w w':=⟨h.os,h.tape,h.output,h.size,fun k G A=>h.block k (by omega) A⟩
def Hk(gs B b0:Nat)(kind:Int)(val next cur gen taken:Nat)(dv:Value)(m:FM)(fs:List FM)(w:World)(e:Ending)(w':World):Prop:=
 dX gs w.heap.size w w'∧((∃fs' mv',jj iD m fs=some fs'∧e= .returned (.bool true)∧StX w' gs kind val next cur gen taken mv' dv∧ll w' B b0 mv' fs')∨(jj iD m fs=none∧e= .returned (.bool false)))
theorem yp{A:World}{J:Nat}{os:List FM}{x:FM}{o:Obj}(G:Below w.heap.size w wr)(O:ll wr (w.heap.size+1) J K os)(R:TxL wr J x.ba x.bc x.x.body∧TxL wr J x.ea x.ec x.x.entry)(U:J≤w.heap.size)(Y:w.heap.size+1≤wr.heap.size)
  (Q:dM A (w.heap.size+1) 108 11 v4 ((os++[x]).map mlF)) (I:(wr.alloc o).grownBy A K.ownBlock):Below w.heap.size w A∧ll A (w.heap.size+1) J v4 (os++[x])∧(∀b,b<wr.heap.size→K.ownBlock≠some b→A.heap[b]? =wr.heap[b]?)∧wr.heap.size≤A.heap.size:=by
 have z:=nAl wr o;have M:∀b,b<wr.heap.size→K.ownBlock≠some b→A.heap[b]? =wr.heap[b]? :=fun b E L=>(I.block b (by have:=z.size;omega) (fun e=>L e.symm)).trans (z.block b E);have N:∀b,b≤w.heap.size→K.ownBlock≠some b:=fun b E L=>(by have:=(dM.lt O.own b L).1;omega);refine⟨⟨I.os.trans (z.os.trans G.os),I.tape.trans (z.tape.trans G.tape),I.output.trans (z.output.trans G.output),?_,fun b E=> ?_⟩,O.push R Q (fun b E=>M b (by omega) (N b (by omega))),M,O0 z.size I.size⟩
 ·have E:=I.size;have L:=z.size;have V:=G.size;omega
 ·exact(M b (by have:=G.size;omega) (N b (by omega))).trans (G.block b E)
theorem Blk.keepB(h:Blk w g cs t)(z:w'.heap[g]? =w.heap[g]?):Blk w' g cs t:=z.trans h
theorem pK{m:FM}(h:Blk w g (mlF m).toArray 108):∀j u,(mlF m)[j]? =some u→w.cell? ⟨g,j,none⟩=some u:=fun j u z=>by
 rw[h.cell j];simpa using z
theorem yF(gs B G:Nat)(aB:Int)(val next aC gen aA:Nat)(mv dv:Value)(fs:List FM)(m:FM)(w:World)(aE:StX w gs aB val next aC gen aA mv dv)(hf:ll w B G mv fs)(bt:gs<B)(hB:B≤w.heap.size)(bp:G≤gs)(hm:TxL w G m.ba m.bc m.x.body∧TxL w G m.ea m.ec m.x.entry)(hs:LtG iD fs)(hl:fs.length≤1000):
  Calls prog 76 #[pP gs,.agg #[.int .u32 (m.x.uid:Int),.int .i64 (m.x.stamp:Int),.int .u32 (m.x.flags:Int),.slice m.ba m.x.body.length m.bc,.slice m.ea m.x.entry.length m.ec,.int .i64 (m.x.stamp0:Int),.int .u32 (m.x.flags0:Int),.int .i64 (m.x.bare:Int),.int .i64 (m.x.size:Int),.bool m.x.moved,.string m.x.card]] w (Hk gs B G aB val next aC gen aA dv m fs w):=by
 obtain⟨am,cm,aO⟩:=hf.own.slice;rw[OW] at aO;subst aO;have Q:=nAl w (.cells #[uI m.x.uid,iI m.x.stamp,uI m.x.flags,.slice m.ba m.x.body.length m.bc,.slice m.ea m.x.entry.length m.ec,iI m.x.stamp0,uI m.x.flags0,iI m.x.bare,iI m.x.size,.bool m.x.moved,.string m.x.card] 108);have aL:=a8 (dQ w #[uI m.x.uid,iI m.x.stamp,uI m.x.flags,.slice m.ba m.x.body.length m.bc,.slice m.ea m.x.entry.length m.ec,iI m.x.stamp0,uI m.x.flags0,iI m.x.bare,iI m.x.size,.bool m.x.moved,.string m.x.card] 108);have aK:=a8 Q;have c7:(w.alloc (.cells #[uI m.x.uid,iI m.x.stamp,uI m.x.flags,.slice m.ba m.x.body.length m.bc,.slice m.ea m.x.entry.length m.ec,iI m.x.stamp0,uI m.x.flags0,iI m.x.bare,iI m.x.size,.bool m.x.moved,.string m.x.card] 108)).cell? ⟨gs,7,none⟩=some (.slice am fs.length cm):=(aE.below Q (by omega)).cell 7;have aQ:w.heap.size+1≤(w.alloc (.cells #[uI m.x.uid,iI m.x.stamp,uI m.x.flags,.slice m.ba m.x.body.length m.bc,.slice m.ea m.x.entry.length m.ec,iI m.x.stamp0,uI m.x.flags0,iI m.x.bare,iI m.x.size,.bool m.x.moved,.string m.x.card] 108)).heap.size:=(by simp);have aM:=a8 aE;have HF:=a8 hf;have HM:=a8 hm;have HS:=a8 hs;clear aE hf hm hs Q;go_enter func76,ntmps76;go_upto_region 1 with fail;generalize w.alloc (.cells #[uI m.x.uid,iI m.x.stamp,uI m.x.flags,.slice m.ba m.x.body.length m.bc,.slice m.ea m.x.entry.length m.ec,iI m.x.stamp0,uI m.x.flags0,iI m.x.bare,iI m.x.size,.bool m.x.moved,.string m.x.card] 108)=w0 at aL aK c7 aQ⊢;go_wp2;clear c7;go_loopw [5,6,8,14] (fun ov bd _ i wr=>∃(j:Nat) (dn:Bool) (os:List FM),j≤fs.length∧i=iI j∧bd= .bool dn∧Hid (InR m fs dn os j)∧Hid (ll wr (w.heap.size+1) G ov os)∧Hid (Below w.heap.size w wr)∧Hid (Blk wr w.heap.size #[uI m.x.uid,iI m.x.stamp,uI m.x.flags,.slice m.ba m.x.body.length m.bc,.slice m.ea m.x.entry.length m.ec,iI m.x.stamp0,uI m.x.flags0,iI m.x.bare,iI m.x.size,.bool m.x.moved,.string m.x.card] 108)∧w.heap.size+1≤wr.heap.size) (fun _ _ _ i _=>fs.length-(intOf i).toNat)
 case atStart=>exact⟨0,false,[],O4 _,rfl,rfl,a8 (InR.start m fs),a8 (ll.nil _ _ _),aK,aL,aQ⟩
 case round=>
  obtain⟨j,dn,os,hj,rfl,rfl,HR,HO,HB,J,bi⟩:=hrel;obtain⟨Y,no,Z,rfl⟩:=eG HO.own;have bw:=HR.len hj;have au:G≤w.heap.size:=(by omega);have ap:=a8 (fun g E=>dM.lt HO.own g E);by_cases aq:j<fs.length
  ·have bm:(j:Int)<(fs.length:Int):=(by omega);have aD:=HF.below HB (by omega);obtain⟨g,be,br,bu⟩:=HF.own.at0 (by rw[OW];omega);subst be;have ax:=a8 (aD.tx fs[j] (O6 aq));have al:=a8 (show TxL wr G m.ba m.bc m.x.body∧TxL wr G m.ea m.ec m.x.entry from⟨HM.1.keep (fun b V=>HB.block b (by omega)),HM.2.keep (fun b V=>HB.block b (by omega))⟩);have U:=fun k hk=>aD.cell j k aq hk;have aF:=a8 (fun e=>HR.same aq e);have aI:=a8 (fun(h:dn=false)=>(by subst h;exact fun e=>HR.put aq HS e):dn=false→iD m<iD fs[j]→InR m fs true (os++[m]++[fs[j]]) (j+1));have aG:=a8 (fun e hc=>HR.step aq e hc);generalize fs[j]=X at ax U aF aI aG;have k0:wr.cell? ⟨g,j*11,none⟩=some (uI X.x.uid):=U 0 (by omega);have k1:wr.cell? ⟨g,j*11+1,none⟩=some (iI X.x.stamp):=U 1 (by omega);have k2:wr.cell? ⟨g,j*11+2,none⟩=some (uI X.x.flags):=U 2 (by omega);have k3:wr.cell? ⟨g,j*11+3,none⟩=some (.slice X.ba X.x.body.length X.bc):=U 3 (by omega);have k4:wr.cell? ⟨g,j*11+4,none⟩=some (.slice X.ea X.x.entry.length X.ec):=U 4 (by omega);have k5:wr.cell? ⟨g,j*11+5,none⟩=some (iI X.x.stamp0):=U 5 (by omega);have k6:wr.cell? ⟨g,j*11+6,none⟩=some (uI X.x.flags0):=U 6 (by omega);have k7:wr.cell? ⟨g,j*11+7,none⟩=some (iI X.x.bare):=U 7 (by omega);have k8:wr.cell? ⟨g,j*11+8,none⟩=some (iI X.x.size):=U 8 (by omega);have k9:wr.cell? ⟨g,j*11+9,none⟩=some (.bool X.x.moved):=U 9 (by omega);have bj:wr.cell? ⟨g,j*11+10,none⟩=some (.string X.x.card):=U 10 (by omega);have Q:=nAl wr (.cells #[uI X.x.uid,iI X.x.stamp,uI X.x.flags,.slice X.ba X.x.body.length X.bc,.slice X.ea X.x.entry.length X.ec,iI X.x.stamp0,uI X.x.flags0,iI X.x.bare,iI X.x.size,.bool X.x.moved,.string X.x.card] 108);have K:=a8 (dQ wr #[uI X.x.uid,iI X.x.stamp,uI X.x.flags,.slice X.ba X.x.body.length X.bc,.slice X.ea X.x.entry.length X.ec,iI X.x.stamp0,uI X.x.flags0,iI X.x.bare,iI X.x.size,.bool X.x.moved,.string X.x.card] 108);have an:=a8 (HO.below Q (by omega));have av:=bTr HB Q;have I:=a8 (J.below Q J.lt);have ar:=a8 (show TxL _ G X.ba X.bc X.x.body∧TxL _ G X.ea X.ec X.x.entry from⟨ax.1.keep (fun b V=>Q.block b (by omega)),ax.2.keep (fun b V=>Q.block b (by omega))⟩);have aH:=a8 (show TxL _ G m.ba m.bc m.x.body∧TxL _ G m.ea m.ec m.x.entry from⟨al.1.keep (fun b V=>Q.block b (by omega)),al.2.keep (fun b V=>Q.block b (by omega))⟩);have ay:=O0 bi Q.size;clear U aD Q ax al HO HB J;go_upto_region 6 with fail;clear k0 k1 k2 k3 k4 k5 k6 k7 k8 k9 bj;generalize bg:wr.alloc (.cells #[uI X.x.uid,iI X.x.stamp,uI X.x.flags,.slice X.ba X.x.body.length X.bc,.slice X.ea X.x.entry.length X.ec,iI X.x.stamp0,uI X.x.flags0,iI X.x.bare,iI X.x.size,.bool X.x.moved,.string X.x.card] 108)=W at K an av I ar aH ay⊢;clear bg;obtain⟨n0,n1,n2,n3,n4,n5,n6,n7,n8,n9,bk⟩:=K.c11;obtain⟨p0,p1,p2,p3,p4,p5,p6,p7,p8,p9,az⟩:=I.c11;by_cases he:X.x.uid=m.x.uid
   ·have HN:=a8 (aF.out he);rw[he] at n0;clear he;go_wp2;go_ret;exact⟨dX.of_below av (OV _),.inr ⟨HN,rfl⟩⟩
   ·have bq:((X.x.uid:Int)==(m.x.uid:Int))=false:=(by simp;omega);by_cases hc:dn=false∧m.x.uid<X.x.uid
    ·obtain⟨rfl,hu⟩:=hc;have bf:(m.x.uid:Int)<(X.x.uid:Int):=(by omega);have aw:=a8 (aI.out rfl hu);have ae:=a8 (show dM (W.alloc (.cells #[uI m.x.uid,iI m.x.stamp,uI m.x.flags,.slice m.ba m.x.body.length m.bc,.slice m.ea m.x.entry.length m.ec,iI m.x.stamp0,uI m.x.flags0,iI m.x.bare,iI m.x.size,.bool m.x.moved,.string m.x.card] 108)) (w.heap.size+1) 108 11 (.slice Y no Z) (List.map mlF os) from dM.below an.own (nAl W _) (OV _));have ad:=a8 (pK (m:=m) (show Blk (W.alloc (.cells #[uI m.x.uid,iI m.x.stamp,uI m.x.flags,.slice m.ba m.x.body.length m.bc,.slice m.ea m.x.entry.length m.ec,iI m.x.stamp0,uI m.x.flags0,iI m.x.bare,iI m.x.size,.bool m.x.moved,.string m.x.card] 108)) W.heap.size (mlF m).toArray 108 from dQ W _ _));have af:w.heap.size+1≤(W.alloc (.cells #[uI m.x.uid,iI m.x.stamp,uI m.x.flags,.slice m.ba m.x.body.length m.bc,.slice m.ea m.x.entry.length m.ec,iI m.x.stamp0,uI m.x.flags0,iI m.x.bare,iI m.x.size,.bool m.x.moved,.string m.x.card] 108)).heap.size:=(by simp;omega);have ah:=a8 (fun(v4:Value) (w4:World) (A:dM w4 (w.heap.size+1) 108 11 v4 (List.map mlF (os++[m]))) (E:(W.alloc (.cells #[uI m.x.uid,iI m.x.stamp,uI m.x.flags,.slice m.ba m.x.body.length m.bc,.slice m.ea m.x.entry.length m.ec,iI m.x.stamp0,uI m.x.flags0,iI m.x.bare,iI m.x.size,.bool m.x.moved,.string m.x.card] 108)).grownBy w4 (Value.ownBlock (.slice Y no Z)))=>yp av an aH au (by omega) A E);have aP:os.length≤1048576:=(by omega);go_upto_region 11 with(first
      |(at_builtin;refine ij _ rfl (.tmp 32) (.tmp 34) rfl (w.heap.size+1) (.slice Y no Z) os m W.heap.size 1 rfl rfl ?_ ?_ ?_ ?_ ?_;(exact ae.out);(exact ad.out);(omega);(exact af);intro v5 z A E;obtain⟨L,M,N,O⟩:=ah.out v5 z A E;have ac:=a8 L;have aa:=a8 M;have ab:=a8 N;have ag:=a8 O;clear L M N O;obtain⟨ai,ak,aj,rfl⟩:=eG A;clear A E)
      |go_in)
     have R:=K.keepB (ab.out wr.heap.size K.lt (fun e=>by have:=(ap.out _ e).2;omega));have aT:=a8 (show TxL z G X.ba X.bc X.x.body∧TxL z G X.ea X.ec X.x.entry from⟨ar.1.keep (fun b V=>ab.out b (by omega) (fun e=>by have:=(ap.out _ e).1;omega)),ar.2.keep (fun b V=>ab.out b (by omega) (fun e=>by have:=(ap.out _ e).1;omega))⟩);have M5:=a8 (I.keepB (ab.out w.heap.size I.lt (fun e=>by have:=(ap.out _ e).1;omega)));have bh:w.heap.size+1≤z.heap.size:=O0 ay ag.out;clear n0 n1 n2 n3 n4 n5 n6 n7 n8 n9 bk p0 p1 p2 p3 p4 p5 p6 p7 p8 p9 az;obtain⟨q0,q1,q2,q3,q4,q5,q6,q7,q8,q9,bB⟩:=R.c11;have bo:=a8 R;have bn:(os++[m]).length≤1048576:=(by simp;omega);clear R;have aU:=a8 (show dM (z.alloc (.cells #[uI X.x.uid,iI X.x.stamp,uI X.x.flags,.slice X.ba X.x.body.length X.bc,.slice X.ea X.x.entry.length X.ec,iI X.x.stamp0,uI X.x.flags0,iI X.x.bare,iI X.x.size,.bool X.x.moved,.string X.x.card] 108)) (w.heap.size+1) 108 11 (.slice ai ak aj) (List.map mlF (os++[m])) from dM.below aa.own (nAl z _) (OV _));have aS:=a8 (pK (m:=X) (show Blk (z.alloc (.cells #[uI X.x.uid,iI X.x.stamp,uI X.x.flags,.slice X.ba X.x.body.length X.bc,.slice X.ea X.x.entry.length X.ec,iI X.x.stamp0,uI X.x.flags0,iI X.x.bare,iI X.x.size,.bool X.x.moved,.string X.x.card] 108)) z.heap.size (mlF X).toArray 108 from dQ z _ _));have aV:w.heap.size+1≤(z.alloc (.cells #[uI X.x.uid,iI X.x.stamp,uI X.x.flags,.slice X.ba X.x.body.length X.bc,.slice X.ea X.x.entry.length X.ec,iI X.x.stamp0,uI X.x.flags0,iI X.x.bare,iI X.x.size,.bool X.x.moved,.string X.x.card] 108)).heap.size:=(by simp;omega);have bb:=a8 (fun(v4:Value) (w4:World) (A:dM w4 (w.heap.size+1) 108 11 v4 (List.map mlF ((os++[m])++[X]))) (E:(z.alloc (.cells #[uI X.x.uid,iI X.x.stamp,uI X.x.flags,.slice X.ba X.x.body.length X.bc,.slice X.ea X.x.entry.length X.ec,iI X.x.stamp0,uI X.x.flags0,iI X.x.bare,iI X.x.size,.bool X.x.moved,.string X.x.card] 108)).grownBy w4 (Value.ownBlock (.slice ai ak aj)))=>yp ac aa aT au (by omega) A E);go_wp2_with (first
      |(at_builtin;refine ij _ rfl (.tmp 36) (.tmp 38) rfl (w.heap.size+1) (.slice ai ak aj) (os++[m]) X z.heap.size 1 rfl rfl ?_ ?_ ?_ ?_ ?_;(exact aU.out);(exact aS.out);(omega);(exact aV);intro v6 w6 A E;obtain⟨L,M,N,O⟩:=bb.out v6 w6 A E;have aW:=a8 L;have aX:=a8 M;have aY:=a8 N;have aZ:=a8 O;clear L M N O;obtain⟨bx,bA,bz,rfl⟩:=eG A;clear A E)
      |go_in)
     have M6:=a8 (M5.keepB (aY.out w.heap.size M5.lt (fun e=>by have:=(dM.lt aa.own _ e).1;omega)));go_roundw
     case rel=>exact⟨j+1,true,os++[m]++[X],by omega,by go_num,rfl,aw,aX,aW,M6,O0 bh aZ⟩
     case measure=>simp[intOf];omega
    ·have aw:=a8 (aG.out he (by
      cases dn with
      |true=>exact Or.inl rfl
      |false=>exact Or.inr (fun h=>hc ⟨rfl,h⟩)))
     have ae:=a8 (show dM (W.alloc (.cells #[uI X.x.uid,iI X.x.stamp,uI X.x.flags,.slice X.ba X.x.body.length X.bc,.slice X.ea X.x.entry.length X.ec,iI X.x.stamp0,uI X.x.flags0,iI X.x.bare,iI X.x.size,.bool X.x.moved,.string X.x.card] 108)) (w.heap.size+1) 108 11 (.slice Y no Z) (List.map mlF os) from dM.below an.own (nAl W _) (OV _));have ad:=a8 (pK (m:=X) (show Blk (W.alloc (.cells #[uI X.x.uid,iI X.x.stamp,uI X.x.flags,.slice X.ba X.x.body.length X.bc,.slice X.ea X.x.entry.length X.ec,iI X.x.stamp0,uI X.x.flags0,iI X.x.bare,iI X.x.size,.bool X.x.moved,.string X.x.card] 108)) W.heap.size (mlF X).toArray 108 from dQ W _ _));have af:w.heap.size+1≤(W.alloc (.cells #[uI X.x.uid,iI X.x.stamp,uI X.x.flags,.slice X.ba X.x.body.length X.bc,.slice X.ea X.x.entry.length X.ec,iI X.x.stamp0,uI X.x.flags0,iI X.x.bare,iI X.x.size,.bool X.x.moved,.string X.x.card] 108)).heap.size:=(by simp;omega);have ah:=a8 (fun(v4:Value) (w4:World) (A:dM w4 (w.heap.size+1) 108 11 v4 (List.map mlF (os++[X]))) (E:(W.alloc (.cells #[uI X.x.uid,iI X.x.stamp,uI X.x.flags,.slice X.ba X.x.body.length X.bc,.slice X.ea X.x.entry.length X.ec,iI X.x.stamp0,uI X.x.flags0,iI X.x.bare,iI X.x.size,.bool X.x.moved,.string X.x.card] 108)).grownBy w4 (Value.ownBlock (.slice Y no Z)))=>yp av an ar au (by omega) A E);have aP:os.length≤1048576:=(by omega);have aN:=a8 (fun(z:World) (hk:∀b,b<W.heap.size→(Value.slice Y no Z).ownBlock≠some b→z.heap[b]? =W.heap[b]?)=>I.keepB (hk w.heap.size I.lt (fun e=>by have:=(ap.out _ e).1;omega)));cases dn with
     |true=>
      clear hc he;go_wp2_with (first
       |(at_builtin;refine ij _ rfl (.tmp 36) (.tmp 38) rfl (w.heap.size+1) (.slice Y no Z) os X W.heap.size 1 rfl rfl ?_ ?_ ?_ ?_ ?_;(exact ae.out);(exact ad.out);(omega);(exact af);intro v5 z A E;obtain⟨L,M,N,O⟩:=ah.out v5 z A E;have ac:=a8 L;have aa:=a8 M;have ab:=a8 N;have ag:=a8 O;clear L M N O;obtain⟨ai,ak,aj,rfl⟩:=eG A;clear A E)
       |go_in)
      go_roundw
      case rel=>exact⟨j+1,true,os++[X],by omega,by go_num,rfl,aw,aa,ac,a8 (aN.out z ab),O0 ay ag⟩
      case measure=>simp[intOf];omega
     |false=>
      have bf:¬(m.x.uid:Int)<(X.x.uid:Int):=fun h=>hc ⟨rfl,by omega⟩;clear hc he;go_wp2_with (first
       |(at_builtin;refine ij _ rfl (.tmp 36) (.tmp 38) rfl (w.heap.size+1) (.slice Y no Z) os X W.heap.size 1 rfl rfl ?_ ?_ ?_ ?_ ?_;(exact ae.out);(exact ad.out);(omega);(exact af);intro v5 z A E;obtain⟨L,M,N,O⟩:=ah.out v5 z A E;have ac:=a8 L;have aa:=a8 M;have ab:=a8 N;have ag:=a8 O;clear L M N O;obtain⟨ai,ak,aj,rfl⟩:=eG A;clear A E)
       |go_in)
      go_roundw
      case rel=>exact⟨j+1,false,os++[X],by omega,by go_num,rfl,aw,aa,ac,a8 (aN.out z ab),O0 ay ag⟩
      case measure=>simp[intOf];omega
  ·obtain rfl:j=fs.length:=(by omega);have HL:=a8 HR.last;have bl:=a8 (aM.below HB (by omega));have al:=a8 (show TxL wr G m.ba m.bc m.x.body∧TxL wr G m.ea m.ec m.x.entry from⟨HM.1.keep (fun b V=>HB.block b (by omega)),HM.2.keep (fun b V=>HB.block b (by omega))⟩);obtain⟨p0,p1,p2,p3,p4,p5,p6,p7,p8,p9,az⟩:=J.c11;have aJ:=a8 (fun(W:World) (v:Value) (aR:List FM) (V:Below w.heap.size w W) (hf:ll W (w.heap.size+1) G v aR)=>((by
    have h7:=aM.below V (by omega);refine⟨h7.cell 7,h7.fz 7,(dX.of_below V (OV _)).set _,?_,?_⟩
    ·have h:=h7.set 7 v;show Blk _ gs (stX _ _ _ _ _ _ _ _) _;simpa[stX] using h
    ·have hk:=hf.keep (w':=W.setCell ⟨gs,7,none⟩ v) (fun b h=>OQ W ⟨gs,7,none⟩ b v (by simp;omega)) (fun g E=>OQ W ⟨gs,7,none⟩ g v (by have:=(dM.lt hf.own g E).1;simp;omega));exact⟨hk.own.mono (by omega),hk.tx⟩):W.cell? ⟨gs,7,none⟩=some (.slice am fs.length cm)∧W.frozen? ⟨gs,7,none⟩=false∧dX gs w.heap.size w (W.setCell ⟨gs,7,none⟩ v)∧StX (W.setCell ⟨gs,7,none⟩ v) gs aB val next aC gen aA v dv∧ll (W.setCell ⟨gs,7,none⟩ v) B G v aR))
   cases dn with
   |true=>
    obtain⟨g7,f7,r1,r2,r3⟩:=aJ.out wr _ os HB HO.out;have R1:=a8 r1;have R2:=a8 r2;have R3:=a8 r3;clear r1 r2 r3 p0 p1 p2 p3 p4 p5 p6 p7 p8 p9 az;go_wp2;go_ret;exact⟨R1,.inl ⟨os,_,HL,rfl,R2,R3⟩⟩
   |false=>
    have ae:=a8 (show dM (wr.alloc (.cells #[uI m.x.uid,iI m.x.stamp,uI m.x.flags,.slice m.ba m.x.body.length m.bc,.slice m.ea m.x.entry.length m.ec,iI m.x.stamp0,uI m.x.flags0,iI m.x.bare,iI m.x.size,.bool m.x.moved,.string m.x.card] 108)) (w.heap.size+1) 108 11 (.slice Y no Z) (List.map mlF os) from dM.below HO.own (nAl wr _) (OV _));have ad:=a8 (pK (m:=m) (show Blk (wr.alloc (.cells #[uI m.x.uid,iI m.x.stamp,uI m.x.flags,.slice m.ba m.x.body.length m.bc,.slice m.ea m.x.entry.length m.ec,iI m.x.stamp0,uI m.x.flags0,iI m.x.bare,iI m.x.size,.bool m.x.moved,.string m.x.card] 108)) wr.heap.size (mlF m).toArray 108 from dQ wr _ _));have af:w.heap.size+1≤(wr.alloc (.cells #[uI m.x.uid,iI m.x.stamp,uI m.x.flags,.slice m.ba m.x.body.length m.bc,.slice m.ea m.x.entry.length m.ec,iI m.x.stamp0,uI m.x.flags0,iI m.x.bare,iI m.x.size,.bool m.x.moved,.string m.x.card] 108)).heap.size:=(by simp;omega);have ah:=a8 (fun(v4:Value) (w4:World) (A:dM w4 (w.heap.size+1) 108 11 v4 (List.map mlF (os++[m]))) (E:(wr.alloc (.cells #[uI m.x.uid,iI m.x.stamp,uI m.x.flags,.slice m.ba m.x.body.length m.bc,.slice m.ea m.x.entry.length m.ec,iI m.x.stamp0,uI m.x.flags0,iI m.x.bare,iI m.x.size,.bool m.x.moved,.string m.x.card] 108)).grownBy w4 (Value.ownBlock (.slice Y no Z)))=>yp HB HO al au (by omega) A E);have aP:os.length≤1048576:=(by omega);go_upto_region 15 with(first
     |(at_builtin;refine ij _ rfl (.tmp 43) (.tmp 45) rfl (w.heap.size+1) (.slice Y no Z) os m wr.heap.size 1 rfl rfl ?_ ?_ ?_ ?_ ?_;(exact ae.out);(exact ad.out);(omega);(exact af);intro v5 z A E;obtain⟨L,M,N,O⟩:=ah.out v5 z A E;have ac:=a8 L;have aa:=a8 M;have ab:=a8 N;have ag:=a8 O;clear L M N O;obtain⟨ai,ak,aj,rfl⟩:=eG A;clear A E)
     |go_in)
    obtain⟨g7,f7,r1,r2,r3⟩:=aJ.out z _ (os++[m]) ac aa.out;have R1:=a8 r1;have R2:=a8 r2;have R3:=a8 r3;clear r1 r2 r3 p0 p1 p2 p3 p4 p5 p6 p7 p8 p9 az;go_wp2;go_ret;exact⟨R1,.inl ⟨os++[m],_,HL,rfl,R2,R3⟩⟩
def MD(w0:World)(D:dO)(nm:BA)(w:World)(e:Ending)(w':World):Prop:=∃a c,e= .returned (.agg #[.bool (b9 D nm).1,.slice a (b9 D nm).2.length c])∧fV w0 a c (b9 D nm).2∧Below w.heap.size w w'
theorem fV.low{a:OA}{d:LN}(h:fV w0 a c d)(E:Below w0.heap.size w0 w):TxL w w0.heap.size a c d:=by
 refine⟨h.row.below E,h.room,h.cap,fun p A=>⟨h.spot p A,fun z=> ?_⟩⟩;obtain⟨b,I,e,G⟩:=h.row z;rw[A] at e;simp only[OY] at e;subst e;exact dG (G 0 z)
theorem jq(w0:World)(v:Value)(D:dO)(nm:BA)(w:World)(hv:eM D)(hd:kJ w0 v D)(K:Below w0.heap.size w0 w):Calls prog 18 #[v,.string nm] w (MD w0 D nm w):=by
 obtain⟨a1,c1,a2,Q,a3,c3,a4,c4,rfl,r1,r2,r3,r4⟩:=hd;have ah:eU (D.nodes.length:Int) D.names=true:=hv.2.2.2.2.1;obtain⟨ak,an,ar,ag⟩:=fX ah;obtain⟨G,z,R,hz⟩:=sj w #[.slice a1 D.nodes.length c1,.slice a2 D.names.length Q,.slice a3 D.kept.length c3,.slice a4 D.pend.length c4,.int .i64 D.quota] #[.bool false,sN] 34 54;have U:=a8 ag;have V:=a8 r1;have Z:=a8 K;have J:=a8 ((r2.below K).below R);have N:=a8 (AK a2 Q D.names nm _ (by omega) ((r2.below K).below R));have O:=a8 R;clear r1 r2 r3 r4 ak an ag ah hv R hz K;go_enter func18,ntmps18;go_wp2_with fail;generalize (w.alloc (.cells #[.slice a1 D.nodes.length c1,.slice a2 D.names.length Q,.slice a3 D.kept.length c3,.slice a4 D.pend.length c4,.int .i64 D.quota] 34)).alloc (.cells #[.bool false,sN] 54)=wa at G z O J N⊢;refine N.mono ?_;rintro e A ⟨am,rfl⟩;have I:=a8 z;obtain⟨z0,z1⟩:=z.c2;have fz:=fun j=>z.fz j;rcases am with⟨i,nd,hi,E,aa,rfl⟩|⟨E,rfl⟩
 ·obtain⟨ae,af⟩:=U.out _ (jt E);obtain⟨k,hk⟩:=Int.eq_ofNat_of_zero_le ae;simp only at hk af;subst hk;have ad:k<D.nodes.length:=(by omega);have Y:=a8 (pn E rfl ad);obtain⟨b2,o2,e2,al⟩:=J.out (by omega);obtain⟨b1,o1,e1,ac⟩:=V.out (by omega);obtain⟨ai,ci,M,k1,aj⟩:=ac k ad;have L:=(Z.cell (p:=⟨b1,o1+k*2,none⟩) (dG M)).trans M;have k0:=(O.cell (p:=⟨b1,o1+k*2,none⟩) (dG L)).trans L;have g1:=aa b2 o2 e2;subst e1 e2;obtain⟨t0,t1⟩:=G.c2;have ap:(i:Int)<(D.names.length:Int):=(by omega);have aq:(k:Int)<(D.nodes.length:Int):=(by omega);have ao:¬(i:Int)<0:=(by omega);have ab:=a8 aj;generalize D.nodes[k].1=bl at k0 M L Y ab;generalize D.nodes[k].2=sf at k1;clear aa ac al aj U ae af N E V J G z k1 M L Z;go_wp2;go_region
  all_goals
   go_wp2;refine OJ (qd (w.heap.size+1) _ _ _ rfl rfl (mW (by first|exact I.out|exact Blk.below I (OX A.heap.size A).drew I.lt) (.bool true) (.slice ai bl.length ci))) rfl ?_;have hb:Below w.heap.size w _:=((O.drew).setCell (p:=⟨w.heap.size+1,0,none⟩) (Nat.le_succ _) (.bool true)).setCell (p:=⟨w.heap.size+1,1,none⟩) (Nat.le_succ _) (.slice ai bl.length ci);exact⟨ai,ci,by rw[Y.out],by rw[Y.out];exact ab.out,hb⟩
 ·have HN:=a8 (uK E);clear N V J U G z Z;go_wp2;refine OJ (qd (w.heap.size+1) _ _ _ rfl rfl (mW I (.bool false) (sN))) rfl ?_;exact⟨none,0,by rw[HN.out];rfl,by rw[HN.out];exact fV.nil _,(O.setCell (p:=⟨w.heap.size+1,0,none⟩) (Nat.le_succ _) _).setCell (p:=⟨w.heap.size+1,1,none⟩) (Nat.le_succ _) _⟩
end Go.Proofs.YtkkdfgnnlpohlaaGreatDoor
