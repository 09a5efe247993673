"""[9], and all that it rests on: drawn histories of boards with views of every kind, against a model of them.

In each of them some functions fail at drawn calls, and followers, readers,
selections and anchors accompany the views.
"""

import random
import unittest

from worlds import World


class HistoriesTest(unittest.TestCase):
    def test_drawn_histories(self):
        for seed in range(60):
            with self.subTest(seed=seed):
                chooser = random.Random(seed)
                world = World(self, chooser, chooser.choice([0, 3, 8, 20]))
                for _ in range(3):
                    world.draw_view()
                for _ in range(90):
                    world.draw_act()

    def test_histories_there_and_back(self):
        """Undo over a whole history, redo over it again, and see each state that was there before."""
        for seed in range(20):
            with self.subTest(seed=seed):
                chooser = random.Random(1000 + seed)
                world = World(self, chooser, 8)
                for _ in range(6):
                    world.draw_view()
                states = [world.model.shown]
                for _ in range(12):
                    world.draw_operation()
                    states.append(world.model.shown)
                for expected in states[-2::-1]:
                    world.draw_undo()
                    self.assertEqual(expected, world.model.shown)
                for expected in states[1:]:
                    world.draw_redo()
                    self.assertEqual(expected, world.model.shown)


if __name__ == "__main__":
    unittest.main()
