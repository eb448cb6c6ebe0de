package table

import (
	"tithebarn/block"
	"tithebarn/reclog"
	"tithebarn/wire"
)

const (
	everySize  = 1
	probesSize = 1
	filterBits = 64
	byteBits   = 8
)

// measure is how many bytes a table has, of pairs that come one by one. Nothing is laid:
// else each number of pairs would take a table of its own.
type measure struct {
	options Options
	count   int
	// Of the blocks that ended: the bytes of their frames, and their index.
	data  int
	index blockSize
	// The block that goes on, and how many bytes of keys and values it has.
	open   blockSize
	filled int
}

// blockSize is how many bytes a block has, of pairs that come one by one.
type blockSize struct {
	every, count, bytes int
	last                string
}

func newMeasure(o Options) *measure {
	return &measure{
		options: o,
		index:   blockSize{every: indexEvery},
		open:    blockSize{every: o.Every},
	}
}

// add counts one more pair.
func (m *measure) add(p block.Pair) {
	m.count++
	m.open.add(p)
	m.filled += filled(p)
	if m.filled >= m.options.Block {
		m.end()
	}
}

// end ends the block that goes on.
func (m *measure) end() {
	size := m.open.frame()
	m.index.add(indexPair(m.open.last, m.data, size))
	m.data += size
	m.open = blockSize{every: m.options.Every}
	m.filled = 0
}

// size tells how many bytes a table of the pairs so far has.
func (m *measure) size() int {
	whole := *m
	if whole.open.count > 0 {
		whole.end()
	}
	return whole.data + whole.index.frame() + whole.filter() + footSize
}

// filter tells how many bytes the filter's frame has.
func (m *measure) filter() int {
	bits := max(m.count*m.options.Bits, filterBits)
	return reclog.Size(probesSize + (bits+byteBits-1)/byteBits)
}

// add counts one more pair.
func (s *blockSize) add(p block.Pair) {
	shared := 0
	if s.count%s.every == 0 {
		s.bytes += wordSize
	} else {
		shared = block.Shared(s.last, p.Key)
	}
	own, value := len(p.Key)-shared, len(p.Value)
	s.bytes += wire.Size(shared) + wire.Size(own) + wire.Size(value) + own + value
	s.count++
	s.last = p.Key
}

// frame tells how many bytes the block's frame has.
func (s *blockSize) frame() int {
	return reclog.Size(s.bytes + wordSize + everySize)
}
