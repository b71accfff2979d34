package impl

const BlockSize = 64
const MaxBlocks = 2048
const MaxPending = 600
const MaxOps = 4000
const OpWrite = 1
const OpFlush = 2
const ErrDisk = 1

type Write struct {
	Block int64
	Data  []byte
}

type Disk struct {
	Durable []byte
	Pending []Write
}

type Op struct {
	Kind  int64
	Block int64
	Data  []byte
}

// diskBlock is an array so that whoever keeps one shares no memory with where it came from.
type diskBlock [BlockSize]byte

// cachedWrite is a write that has not reached the durable blocks yet.
type cachedWrite struct {
	at   int64
	data diskBlock
}

// device is a disk at work: made from a Disk, changed in place, told as a Disk again.
type device struct {
	durable []diskBlock
	pending []cachedWrite
}

// step carries out one operation on a device, and tells whether the device took it.
type step func(v *device, op Op) bool

func NewDisk(blocks int64) Disk {
	if blocks < 1 || blocks > MaxBlocks {
		return Disk{}
	}
	return Disk{Durable: make([]byte, blocks*BlockSize)}
}

func ValidDisk(d Disk) bool {
	size := len(d.Durable)
	if size == 0 || size > MaxBlocks*BlockSize || size%BlockSize != 0 {
		return false
	}
	if len(d.Pending) > MaxPending {
		return false
	}
	blocks := int64(size / BlockSize)
	for _, w := range d.Pending {
		if w.Block < 0 || w.Block >= blocks || len(w.Data) != BlockSize {
			return false
		}
	}
	return true
}

func DiskRead(d Disk, block int64) []byte {
	v, ok := openDevice(d)
	if !ok || !v.has(block) {
		return nil
	}
	return bytesOf(v.read(block))
}

func DiskWrite(d Disk, block int64, data []byte) Disk {
	v, ok := openDevice(d)
	if !ok || !v.write(block, data) {
		return Disk{}
	}
	return v.disk()
}

func DiskFlush(d Disk) Disk {
	v, ok := openDevice(d)
	if !ok {
		return Disk{}
	}
	v.flush()
	return v.disk()
}

func DiskCrash(d Disk, keep []int64) Disk {
	v, ok := openDevice(d)
	if !ok || len(keep) > MaxPending {
		return Disk{}
	}
	v.crash(keep)
	return v.disk()
}

func DiskImage(d Disk) []byte {
	v, ok := openDevice(d)
	if !ok {
		return nil
	}
	// What readers see is what a flush would make durable, and this device is nobody else's.
	v.flush()
	return joined(v.durable)
}

func DiskDo(d Disk, ops []Op, limit int64) Disk {
	v, ok := openDevice(d)
	if !ok || len(ops) > MaxOps {
		return Disk{}
	}
	for _, op := range firstOps(ops, limit) {
		if !v.do(op) {
			return Disk{}
		}
	}
	return v.disk()
}

// openDevice copies a valid disk into a device of its own; false if the disk is not valid.
func openDevice(d Disk) (*device, bool) {
	if !ValidDisk(d) {
		return nil, false
	}
	v := &device{
		durable: make([]diskBlock, len(d.Durable)/BlockSize),
		pending: make([]cachedWrite, len(d.Pending)),
	}
	for i := range v.durable {
		copy(v.durable[i][:], d.Durable[i*BlockSize:])
	}
	for i, w := range d.Pending {
		v.pending[i] = cachedWrite{at: w.Block, data: diskBlock(w.Data)}
	}
	return v, true
}

// disk tells the device as a Disk, in new memory.
func (v *device) disk() Disk {
	d := Disk{Durable: joined(v.durable)}
	for _, w := range v.pending {
		d.Pending = append(d.Pending, Write{Block: w.at, Data: bytesOf(w.data)})
	}
	return d
}

func (v *device) has(at int64) bool {
	return at >= 0 && at < int64(len(v.durable))
}

// read tells a block that the device has, as a reader sees it.
func (v *device) read(at int64) diskBlock {
	for i := len(v.pending) - 1; i >= 0; i-- {
		if v.pending[i].at == at {
			return v.pending[i].data
		}
	}
	return v.durable[at]
}

// write is false, and does nothing, if the device refuses the write.
func (v *device) write(at int64, data []byte) bool {
	if len(v.pending) >= MaxPending || !v.has(at) || len(data) != BlockSize {
		return false
	}
	v.pending = append(v.pending, cachedWrite{at: at, data: diskBlock(data)})
	return true
}

func (v *device) flush() {
	v.settle(func(int) bool { return true })
}

func (v *device) crash(keep []int64) {
	v.settle(func(i int) bool { return i < len(keep) && keep[i] != 0 })
}

// settle empties the cache: the writes that are kept become durable in their order, the others are lost.
func (v *device) settle(kept func(i int) bool) {
	for i, w := range v.pending {
		if kept(i) {
			v.durable[w.at] = w.data
		}
	}
	v.pending = nil
}

// do is false if the operation is none, or is refused.
func (v *device) do(op Op) bool {
	steps := [...]step{OpWrite: (*device).doWrite, OpFlush: (*device).doFlush}
	if op.Kind < 0 || op.Kind >= int64(len(steps)) || steps[op.Kind] == nil {
		return false
	}
	return steps[op.Kind](v, op)
}

func (v *device) doWrite(op Op) bool {
	return v.write(op.Block, op.Data)
}

func (v *device) doFlush(op Op) bool {
	if op.Block != 0 || len(op.Data) != 0 {
		return false
	}
	v.flush()
	return true
}

// firstOps are the operations that are to be done under a limit.
func firstOps(ops []Op, limit int64) []Op {
	if limit < 0 || limit >= int64(len(ops)) {
		return ops
	}
	return ops[:limit]
}

func bytesOf(b diskBlock) []byte {
	out := make([]byte, BlockSize)
	copy(out, b[:])
	return out
}

// joined are the bytes of the blocks, one behind the other.
func joined(blocks []diskBlock) []byte {
	out := make([]byte, len(blocks)*BlockSize)
	for i, b := range blocks {
		copy(out[i*BlockSize:], b[:])
	}
	return out
}
