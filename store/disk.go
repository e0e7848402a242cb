package store

import (
	"slices"

	"stutter/api"
)

// checkContent is the error of a content.
func checkContent(content []string) api.Errno {
	if len(content) > api.MaxDiskBlocks {
		return api.ErrLarge
	}
	if slices.ContainsFunc(content, func(b string) bool { return len(b) > api.MaxBlockBytes }) {
		return api.ErrLarge
	}
	return api.OK
}

// checkWrites is the error of writes.
func checkWrites(l []api.DiskWrite) api.Errno {
	if len(l) > api.MaxDiskWrites {
		return api.ErrLarge
	}
	for _, w := range l {
		switch {
		case w.Kind != api.DiskPut && w.Kind != api.DiskSync:
			return api.ErrKind
		case w.Kind == api.DiskPut && (w.Block < 0 || w.Block >= api.MaxDiskBlocks):
			return api.ErrRange
		case w.Kind == api.DiskPut && len(w.Bytes) > api.MaxBlockBytes:
			return api.ErrLarge
		case w.Kind == api.DiskSync && (w.Block != 0 || w.Bytes != ""):
			return api.ErrForm
		}
	}
	return api.OK
}

// written is a block after so many bytes were written to it.
func written(old, bytes string, many int) string {
	switch {
	case many < 0:
		return old
	case many >= len(bytes):
		return bytes
	case len(old) > many:
		return bytes[:many] + old[many:]
	}
	return bytes[:many]
}

// ContentAfter returns the content of a disk after a power failure.
func ContentAfter(content []string, l []api.DiskWrite, c api.DiskCrash) ([]string, api.Errno) {
	if err := checkContent(content); err != api.OK {
		return nil, err
	}
	if err := checkWrites(l); err != api.OK {
		return nil, err
	}
	if c.Writes < 0 || c.Writes > len(l) {
		return nil, api.ErrRange
	}
	if len(c.Fates) > api.MaxDiskWrites {
		return nil, api.ErrLarge
	}
	synced := 0
	for i, w := range l[:c.Writes] {
		if w.Kind == api.DiskSync {
			synced = i + 1
		}
	}
	blocks := make([]string, api.MaxDiskBlocks)
	copy(blocks, content)
	puts := 0
	for i, w := range l[:c.Writes] {
		if w.Kind != api.DiskPut {
			continue
		}
		many := len(w.Bytes)
		if i >= synced {
			many = 0
			if puts < len(c.Fates) {
				many = c.Fates[puts]
			}
			puts++
		}
		blocks[w.Block] = written(blocks[w.Block], w.Bytes, many)
	}
	for len(blocks) > 0 && blocks[len(blocks)-1] == "" {
		blocks = blocks[:len(blocks)-1]
	}
	return blocks, api.OK
}
