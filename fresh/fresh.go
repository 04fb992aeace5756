// Package fresh makes copies that share no memory with what they were made of, for the layers that keep frames or hand them on.
package fresh

import "unison/api"

// Frame is the frame in new memory. The memory of a list that has none isn't shared either: there is room behind its end.
func Frame(f api.Frame) api.Frame {
	f.Est = append([]api.Run(nil), f.Est...)
	f.Aux = append([]api.Run(nil), f.Aux...)
	f.Done = append([]uint64(nil), f.Done...)
	f.Held = append([]uint64(nil), f.Held...)
	f.Data = append([]byte(nil), f.Data...)
	return f
}
