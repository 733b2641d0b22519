package dawg

import (
	"iter"
	"slices"

	"errata/api"
	"errata/runes"
)

// The frozen states without edges: one behind which is nothing at all, and
// one at which words end.
const (
	bare int32 = iota
	end
)

// tail is a state's last edge, and the frozen state that is as this one, but
// without that edge. Frozen states are there once each, so two states have the
// same rests just if they have the same tail.
type tail struct{ body, r, to int32 }

// frozen is a state that no edge is laid to any more. One whose tail is all
// zero is bare or end.
type frozen struct {
	tail
	words int32 // how many rests are behind it
	ends  bool
}

// open is a state of a beginning of the last word: what it is frozen as by
// the edges behind which nothing is laid any more, and the rune of the one
// that the last word goes on by.
type open struct{ so, r int32 }

// builder freezes the states of rising words as soon as no further word goes
// on from them, so that never more are open than a word has.
type builder struct {
	way    []open // of the last word's beginnings, the shortest first
	frozen []frozen
	known  map[tail]int32 // where each frozen state stands
}

// build is the automaton of normal words, without their Freqs.
func build(l []api.Word) *Dawg {
	b := &builder{
		way:    []open{{so: bare}},
		frozen: []frozen{bare: {}, end: {words: 1, ends: true}},
		known:  make(map[tail]int32),
	}
	for w := range spelled(l) {
		b.add(w)
	}
	b.freeze(0)
	return b.laid(b.way[0].so)
}

// spelled hands on the runes of each word.
func spelled(l []api.Word) iter.Seq[[]int32] {
	return func(yield func([]int32) bool) {
		for _, w := range l {
			// Normal words are texts: there is no error here.
			s, _ := runes.Decode(w.S)
			if !yield(s) {
				return
			}
		}
	}
}

// add opens the states of a word that stands behind all that were added.
func (b *builder) add(w []int32) {
	keep := b.alike(w)
	b.freeze(keep)
	for _, r := range w[keep:] {
		b.way[len(b.way)-1].r = r
		b.way = append(b.way, open{so: bare})
	}
	b.way[len(b.way)-1].so = end
}

// alike is how many runes w begins with that the last word begins with, too.
func (b *builder) alike(w []int32) int {
	n := 0
	// From the last state no rune leads on.
	for n < len(w) && n < len(b.way)-1 && w[n] == b.way[n].r {
		n++
	}
	return n
}

// freeze freezes the states of the last word's beginnings of more than keep runes.
func (b *builder) freeze(keep int) {
freezing:
	for i := len(b.way) - 1; i > keep; i-- {
		from := &b.way[i-1]
		t := tail{body: from.so, r: from.r, to: b.way[i].so}
		if n, found := b.known[t]; found {
			from.so = n
			continue freezing
		}
		from.so = b.lay(t)
		b.known[t] = from.so
	}
	b.way = b.way[:keep+1]
}

// lay is a new frozen state of that tail.
func (b *builder) lay(t tail) int32 {
	body, to := b.frozen[t.body], b.frozen[t.to]
	b.frozen = append(b.frozen, frozen{tail: t, words: body.words + to.words, ends: body.ends})
	return int32(len(b.frozen) - 1)
}

// tails hands on the tails of a frozen state, of that without its last edge,
// and so on: its edges from the last one to the first.
func (b *builder) tails(n int32) iter.Seq[tail] {
	return func(yield func(tail) bool) {
		for n != bare && n != end {
			t := b.frozen[n].tail
			if !yield(t) {
				return
			}
			n = t.body
		}
	}
}

// met is the frozen states that are met from n on, in that order, and of each
// which one it is. Many a frozen one is but a body, and isn't met.
func (b *builder) met(n int32) (order, number []int32) {
	const unmet = -1
	number = slices.Repeat([]int32{unmet}, len(b.frozen))
	ahead := []int32{n}
	for len(ahead) > 0 {
		n = ahead[len(ahead)-1]
		ahead = ahead[:len(ahead)-1]
		if number[n] != unmet {
			continue
		}
		number[n] = int32(len(order))
		order = append(order, n)
		// The first edge is laid on top: all behind it is met ahead of the next one.
		for t := range b.tails(n) {
			ahead = append(ahead, t.to)
		}
	}
	return order, number
}

// laid is the automaton whose first state is the frozen one n.
func (b *builder) laid(n int32) *Dawg {
	order, number := b.met(n)
	d := &Dawg{states: make([]state, 0, len(order))}
	for _, n := range order {
		from := len(d.edges)
		for t := range b.tails(n) {
			d.edges = append(d.edges, edge{r: t.r, to: number[t.to], ahead: b.frozen[t.body].words})
		}
		slices.Reverse(d.edges[from:])
		d.states = append(d.states, state{from: int32(from), till: int32(len(d.edges)), ends: b.frozen[n].ends})
	}
	return d
}
